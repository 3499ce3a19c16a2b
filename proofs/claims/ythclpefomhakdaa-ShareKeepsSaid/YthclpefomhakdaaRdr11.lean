/- Drop, Clear: the document's. -/
import Derived.Test.YthclpefomhakdaaRad11
namespace Go.Proofs.Ythclpefomhakdaa
open Go.RowKit

set_option maxRecDepth 100000 in
set_option maxHeartbeats 8000000 in
theorem rdrop_any (w : World) (A : Option Addr) (c : Nat) (l : List Opn) (a h : Int) (hb : Els opE 5 w A l) (hl : l.length ≤ 9223372036854775807) (hc : l.length ≤ c) :
    Calls Try.prog 22 #[.slice A l.length c, .int .u32 a, .int .u32 h] w fun e w' => TripAns w w' e (dropR l ⟨a, h, 0, 0, 0⟩) := by
  obtain ⟨R, hR⟩ : ∃ R, R = dropR l ⟨a, h, 0, 0, 0⟩ := ⟨_, rfl⟩
  rw [← hR]
  have r1 : ¬ RightP l → R = ([], zeroO, 1) := fun k => by rw [hR]; unfold dropR; rw [if_neg k]
  have r14 : RightP l → findK l a h = none → R = ([], zeroO, 14) := fun k k2 => by rw [hR]; unfold dropR; rw [if_pos k]; simp only [k2]
  have r0 : RightP l → ∀ x (m : Nat), findK l a h = some x → l[m]? = some x → R = (l.take m ++ l.drop (m + 1), x, 0) := fun k x m k2 k3 => by
    have e := idx_eq k.rise (findK_pos k.rise (t := ⟨a, h, 0, 0, 0⟩) k2) k3
    rw [hR]; unfold dropR; rw [if_pos k]; simp only [k2]; rw [e]; rfl
  have hRt := fun W (k : Only [] w W) => rright_any W A c l (hb.kept k (by simp)) hl
  have hFi := fun W (k : Only [] w W) => rfind_any W A c l a h (hb.kept k (by simp)) hl
  have k0 : Only [] w (w.alloc (.cells #[.int .u32 0, .int .u32 0, .int .u32 0, .int .u32 0, .int .u32 0] 27)) := (Only.refl [] w).alloc _
  have b0 := Bx.zero w
  clear hR
  replace hRt := Lib.hid hRt
  replace hFi := Lib.hid hFi
  replace r1 := Lib.hid r1
  replace r14 := Lib.hid r14
  replace r0 := Lib.hid r0
  go_enter Try.func22, Try.ntmps22
  go_wp2_with fail
  refine (hRt.out _ k0).mono ?_; rintro e w1 ⟨rfl, k1'⟩
  have k1 := k0.trans k1'
  have b1 := Bx.kept b0 k1' (by simp)
  have hq0 : w.heap.size ≤ w.heap.size := Nat.le_refl _
  generalize hq : w.heap.size = q at hq0 b1 ⊢
  replace hq0 : w.heap.size ≤ q := by omega
  replace hq := Lib.hid hq
  clear b0 k1'
  by_cases hr : RightP l
  rotate_left
  · have hR := r1.out hr
    subst hR
    rw [decide_eq_false hr]
    go_wp2_with (refine wpList_store_op zeroO zeroO rfl _ _ rfl q rfl rfl b1 ?_; intro w5 b5 k5)
    refine bodyPost_ret (v := .tuple #[.slice none 0 0, opV zeroO, .int .i64 1]) (results_mid rfl _ _ q rfl _ b5 _ _ rfl rfl) rfl ?_
    exact ⟨_, rfl, Mine.start _ _ _ (k1.own k5 hq0)⟩
  rw [decide_eq_true hr]
  have hrp := hr
  have hl12 : l.length ≤ 12 := hr.len
  replace hrp := Lib.hid hrp
  clear hr
  go_wp2_with fail
  refine (hFi.out _ k1).mono ?_; rintro e w2 ⟨⟨r, rfl, hr0⟩, rfl⟩
  by_cases h0 : r < 0
  · have hR := r14.out hrp.out (by
      rcases hr0.out with h | ⟨m, x, h1, _, _⟩
      · exact h.2
      · omega)
    have d0 : decide (r < 0) = true := decide_eq_true h0
    subst hR
    go_wp2_with (refine wpList_store_op zeroO zeroO rfl _ _ rfl q rfl rfl b1 ?_; intro w5 b5 k5)
    refine bodyPost_ret (v := .tuple #[.slice none 0 0, opV zeroO, .int .i64 14]) (results_mid rfl _ _ q rfl _ b5 _ _ rfl rfl) rfl ?_
    exact ⟨_, rfl, Mine.start _ _ _ (k1.own k5 hq0)⟩
  obtain ⟨m, x, hrm, hmx, hfk⟩ : ∃ (m : Nat) (x : Opn), r = m ∧ l[m]? = some x ∧ findK l a h = some x := by
    rcases hr0.out with h | h
    · omega
    · exact h
  subst hrm
  have hR := r0.out hrp.out x m hfk hmx
  have hpl := (List.getElem?_eq_some_iff.1 hmx).1
  have hpe := (List.getElem?_eq_some_iff.1 hmx).2
  have hhd := run_head (P := Try.prog) 22 27 Try.underlying22 size_op' A l.length c m (m : Int) rfl (by omega)
  have htl := run_tail (P := Try.prog) 22 27 Try.underlying22 size_op' A l.length c (m + 1) ((m : Int) + 1) (by omega) (by omega)
  have h1 : Els opE 5 w (tailA A c 0 5) (l.take m) := hb.head
  have h2 : Els opE 5 w (tailA A c (m + 1) 5) (l.drop (m + 1)) := hb.tail hc (by omega)
  have n1 : (l.take m).length = m := by rw [List.length_take]; omega
  have n2 : (l.drop (m + 1)).length = l.length - (m + 1) := List.length_drop
  have hbA := hb.get hpl
  obtain ⟨g, o, hA, hg, hat⟩ := hbA
  have hcx := fun W (k : Only [] w W) => ops_at (hat.kept k (by simp)) hpl
  rw [hpe] at hcx
  generalize l.take m = l1 at *
  generalize l.drop (m + 1) = l2 at *
  have n9 : l1.length ≤ 1000 ∧ l2.length ≤ 1000 := ⟨by omega, by omega⟩
  have n8 : l1.length = m := n1
  obtain ⟨n9, n7⟩ := n9
  obtain ⟨x0, x1, x2, x3, x4⟩ := x
  simp only at hcx
  have hgq : g < q := by have := hg; have := hq.out; omega
  have KP : Hid (∀ w', Only [] w w' → w'.cell? ⟨g, o + m * 5, none⟩ = some (.int .u32 x0) ∧ w'.cell? ⟨g, o + m * 5 + 1, none⟩ = some (.int .u32 x1) ∧ w'.cell? ⟨g, o + m * 5 + 2, none⟩ = some (.int .u32 x2) ∧ w'.cell? ⟨g, o + m * 5 + 3, none⟩ = some (.int .u32 x3) ∧ w'.cell? ⟨g, o + m * 5 + 4, none⟩ = some (.int .u32 (x4 : Int))) := hcx
  have hm0 : (0 : Int) ≤ (m : Int) := by omega
  have hmlI : (m : Int) < (l.length : Int) := by omega
  replace hR := Lib.hid hR
  replace hmx := Lib.hid hmx
  replace hpe := Lib.hid hpe
  replace n8 := Lib.hid n8
  replace h1 := Lib.hid h1
  replace h2 := Lib.hid h2
  replace n1 := Lib.hid n1
  replace n2 := Lib.hid n2
  replace hA := Lib.hid hA
  generalize w2 = wB at *
  have hB := k1
  clear r0 r1 r14 hRt hFi hcx hat hr0 hfk k1 h0
  go_wp2_with (at_builtin; first
    | (refine wpList_append_any opE_length (by decide) opE_one rfl (.tmp 22) (.tmp 25) 22 rfl 27 _ 20 Try.underlying22 info_op rfl _ 0 [] rfl (Mine.start opE 5 27 hB).own (tailA A c 0 5) c l1 (by rw [n1.out]; exact rfl) (h1.out.kept hB (by simp)) (by unfold maxLen; omega) (by omega) ?_
       intro vv w6 h6 g6 a6
       have g6' : wB.grownBy w6 none := g6
       have a6' : vv.ownBlock = none ∨ vv.ownBlock = some wB.heap.size := a6
       have k06 : Only [] wB w6 := (Only.refl [] wB).grown g6' (fun j hj => by cases hj)
       have m1 : Hid (Mine opE 5 27 w w6 vv ([] ++ l1)) := Lib.hid ((Mine.start opE 5 27 hB).joined h6 g6 a6)
       have h2' := h2.out.kept m1.out.only (by simp)
       rw [List.nil_append] at m1
       have b6 := Bx.kept b1 k06 (by simp)
       have hn6 : Hid (∀ g, vv.ownBlock = some g → wB.heap.size ≤ g) := Lib.hid (fun g hg => by
         rcases a6' with a6' | a6'
         · rw [a6'] at hg; cases hg
         · rw [a6'] at hg; injection hg with hg; omega)
       clear h6 g6 g6' a6 a6' hhd)
    | (go_must (refine wpList_append_any opE_length (by decide) opE_one rfl (.tmp 27) (.tmp 31) 22 rfl 27 _ 20 Try.underlying22 info_op rfl _ _ _ rfl m1.out.own (tailA A c (m + 1) 5) (c - (m + 1)) l2 (by rw [n2.out]; exact rfl) h2' (by unfold maxLen; omega) (by omega) ?_)
       intro v3 w8 h8 g8 a8
       have g8' : w6.grownBy w8 vv.ownBlock := g8
       have a8' : v3.ownBlock = vv.ownBlock ∨ v3.ownBlock = some w6.heap.size := a8
       have k68 := only_own g8'
       have b8 := b6.kept k68 (by
         intro hm
         have hq6 := b1.lt
         cases hvo : vv.ownBlock with
         | none => rw [hvo] at hm; simp at hm
         | some z => rw [hvo] at hm; simp at hm; have := hn6.out z hvo; omega)
       have hq8 : Hid (∀ g, v3.ownBlock = some g → g ≠ q) := Lib.hid (fun z hz => by
         have hq6 := b1.lt
         have hq7 := b6.lt
         rcases a8' with a8' | a8'
         · rw [a8'] at hz; have := hn6.out z hz; omega
         · rw [a8'] at hz; injection hz with hz; have := k06.size; omega)
       have m3 : Hid (Mine opE 5 27 w w8 v3 (l1 ++ l2)) := m1.out.joined h8 g8 a8
       clear h8 g8 g8' a8 a8' m1 h2' htl b6 hn6 k68 k06))
  have hA' := hA.out
  subst hA'
  refine wp_region_held_drew (S := fun w' => w'.cell? ⟨g, o + m * 5, none⟩ = some (.int .u32 x0) ∧ w'.cell? ⟨g, o + m * 5 + 1, none⟩ = some (.int .u32 x1) ∧ w'.cell? ⟨g, o + m * 5 + 2, none⟩ = some (.int .u32 x2) ∧ w'.cell? ⟨g, o + m * 5 + 3, none⟩ = some (.int .u32 x3) ∧ w'.cell? ⟨g, o + m * 5 + 4, none⟩ = some (.int .u32 (x4 : Int))) (by kernel_rfl) (KP.out _ m3.out.only.drew) (fun hHeld => ?_)
  refine held_take 0 (v3) rfl (by kernel_rfl) (by kernel_rfl) (by kernel_rfl) (fun _ _ _ h => h) hHeld (Or.inl ⟨by rfl, fun w' hSw => by (try dsimp only at hSw); (try subst hSw); go_simp⟩) ?_
  simp only [Act.put, List.setIfInBounds_toArray, List.set_cons_zero, List.set_cons_succ]
  refine held_take 1 (.slice (some ⟨g, o, none⟩) l.length c) rfl (by kernel_rfl) (by kernel_rfl) (by kernel_rfl) (fun _ _ _ h => h) hHeld (Or.inl ⟨by rfl, fun w' hSw => by (try dsimp only at hSw); (try subst hSw); go_simp⟩) ?_
  simp only [Act.put, List.setIfInBounds_toArray, List.set_cons_zero, List.set_cons_succ]
  refine held_take 2 (.int .i64 m) rfl (by kernel_rfl) (by kernel_rfl) (by kernel_rfl) (fun _ _ _ h => h) hHeld (Or.inl ⟨by rfl, fun w' hSw => by (try dsimp only at hSw); (try subst hSw); go_simp⟩) ?_
  simp only [Act.put, List.setIfInBounds_toArray, List.set_cons_zero, List.set_cons_succ]
  refine held_take 3 (.pointer (some ⟨g, o + m * 5, none⟩)) rfl (by kernel_rfl) (by kernel_rfl) (by kernel_rfl) (fun _ _ _ h => h) hHeld (Or.inl ⟨by rfl, fun w' hSw => by (try dsimp only at hSw); (try subst hSw); go_simp⟩) ?_
  simp only [Act.put, List.setIfInBounds_toArray, List.set_cons_zero, List.set_cons_succ]
  refine held_take 4 (.agg #[.int .u32 x0, .int .u32 x1, .int .u32 x2, .int .u32 x3, .int .u32 (x4 : Int)]) rfl (by kernel_rfl) (by kernel_rfl) (by kernel_rfl) (fun _ _ _ h => h) hHeld (Or.inl ⟨by rfl, fun w' hSw => by (try dsimp only at hSw); (try subst hSw); go_simp⟩) ?_
  simp only [Act.put, List.setIfInBounds_toArray, List.set_cons_zero, List.set_cons_succ]
  have b9 : Bx w8.drew q zeroO := Bx.kept (S := []) b8 (Only.refl [] _).drew (by simp)
  refine held_take 5 (v3) rfl (by kernel_rfl) (by kernel_rfl) (by kernel_rfl) (fun _ _ _ h => h) hHeld (Or.inl ⟨by rfl, fun w' hSw => by (try dsimp only at hSw); (try subst hSw); go_simp⟩) ?_
  simp only [Act.put, List.setIfInBounds_toArray, List.set_cons_zero, List.set_cons_succ]
  refine held_step 6 rfl (by kernel_rfl) (fun K hK => ?_)
  rw [if_pos (by rfl)]
  refine wp_store_op ⟨x0, x1, x2, x3, x4⟩ zeroO _ _ rfl q rfl rfl b9 ?_
  intro w5 b5 k5
  refine hK.out _ _ (by
    obtain ⟨z0, z1, z2, z3, z4⟩ := KP.out _ m3.out.only.drew
    have hn : g ∉ [q] := by simp; omega
    exact ⟨k5.cell z0 hn, k5.cell z1 hn, k5.cell z2 hn, k5.cell z3 hn, k5.cell z4 hn⟩) (fun hHeld => ?_)
  clear hK K
  simp only [Act.put]
  refine held_take 7 (.int .i64 0) rfl (by kernel_rfl) (by kernel_rfl) (by kernel_rfl) (fun _ _ _ h => h) hHeld (Or.inl ⟨by rfl, fun w' hSw => by (try dsimp only at hSw); (try subst hSw); go_simp⟩) ?_
  simp only [Act.put, List.setIfInBounds_toArray, List.set_cons_zero, List.set_cons_succ]
  refine wpAnyH_done (by kernel_rfl) ?_ _
  clear hHeld
  have hmf : Mine opE 5 27 w w5 v3 _ := ⟨ownsRow_kept' m3.out.own k5.undrew (fun g hg => by simpa using hq8.out g hg), m3.out.new, m3.out.only.own k5.undrew hq0⟩
  have hr' := hR.out
  subst hr'
  replace hmf := Lib.hid hmf
  go_wp2_with fail
  refine bodyPost_ret (v := .tuple #[v3, opV ⟨x0, x1, x2, x3, x4⟩, .int .i64 0]) (results_mid rfl _ _ q rfl _ b5 _ _ rfl rfl) rfl ?_
  exact ⟨_, rfl, hmf.out⟩

theorem clearL_step_keep {l : List Opn} {a : Int} {j : Nat} {x : Opn} (hx : l[j]? = some x) (h : ¬ x.client = a) : clearL (l.take (j + 1)) a = clearL (l.take j) a ++ [x] := by
  rw [get_snoc hx]
  simp [clearL, h]
theorem clearL_step_drop {l : List Opn} {a : Int} {j : Nat} {x : Opn} (hx : l[j]? = some x) (h : x.client = a) : clearL (l.take (j + 1)) a = clearL (l.take j) a := by
  rw [get_snoc hx]
  simp [clearL, h]
set_option maxRecDepth 100000 in
set_option maxHeartbeats 8000000 in
theorem rclear_any (w : World) (A : Option Addr) (c : Nat) (l : List Opn) (a : Int) (hb : Els opE 5 w A l) (hl : l.length ≤ 9223372036854775807) :
    Calls Try.prog 24 #[.slice A l.length c, .int .u32 a] w fun e w' => PairAns w w' e (clearR l a) := by
  obtain ⟨R, hR⟩ : ∃ R, R = clearR l a := ⟨_, rfl⟩
  rw [← hR]
  have r1 : ¬ RightP l → R = ([], 1) := fun k => by rw [hR]; unfold clearR; rw [if_neg k]
  have r0 : RightP l → R = (clearL l a, 0) := fun k => by rw [hR]; unfold clearR; rw [if_pos k]
  have hRt := rright_any w A c l hb hl
  clear hR
  replace hRt := Lib.hid hRt
  replace r1 := Lib.hid r1
  replace r0 := Lib.hid r0
  go_enter Try.func24, Try.ntmps24
  go_wp2_with fail
  refine hRt.out.mono ?_; rintro e w1 ⟨rfl, k1⟩
  by_cases hr : RightP l
  rotate_left
  · have hR := r1.out hr
    subst hR
    rw [decide_eq_false hr]
    go_wp2
    go_ret2
    exact PairAns.no k1
  rw [decide_eq_true hr]
  have hR := r0.out hr
  have hl12 : l.length ≤ 12 := hr.len
  replace hR := Lib.hid hR
  clear hr r0 r1 hRt
  go_wp2_with fail
  go_loopw [6, 7] (fun v i wr => ∃ n : Nat, n ≤ l.length ∧ i = .int .i64 n ∧ Mine opE 5 27 w wr v (clearL (l.take n) a)) (fun _ i _ => l.length - (intOf i).toNat)
  case atStart => exact ⟨0, Nat.zero_le _, rfl, Mine.start opE 5 27 k1⟩
  case round =>
    clear k1
    obtain ⟨n, hn, rfl, hm⟩ := hrel
    by_cases hlt : n < l.length
    · obtain ⟨g, o, rfl, hg, hat⟩ := hb.get hlt
      obtain ⟨c0, c1, c2, c3, c4⟩ := ops_at (hat.kept hm.only (by simp)) hlt
      have hx : l[n]? = some l[n] := List.getElem?_eq_getElem hlt
      have hlen : (clearL (l.take n) a).length ≤ 1000 := by
        have h1 := (clear_sub (l.take n) a).length_le
        rw [List.length_take] at h1
        omega
      have hkp := fun h => clearL_step_keep (a := a) hx h
      have hdr := fun h => clearL_step_drop (a := a) hx h
      generalize l[n] = x at *
      obtain ⟨x0, x1, x2, x3, x4⟩ := x
      simp only at c0 c1 c2 c3 c4 hkp hdr
      clear hat
      replace hx := Lib.hid hx
      by_cases he : x0 = a
      · have d1 : (x0 != a) = false := by simpa using he
        have hd := hdr he
        rw [← hd] at hm
        replace he := Lib.hid he
        clear hd hkp hdr
        replace hm := Lib.hid hm
        go_wp2
        go_roundw
        case rel => exact ⟨n + 1, by omega, by go_num, hm.out⟩
        case measure => simp [intOf]; omega
      · have d1 : (x0 != a) = true := by simpa using he
        have hk := hkp he
        replace hk := Lib.hid hk
        have hm' := hm.keep ((Only.refl [] wr).alloc (.cells #[.int .u32 x0, .int .u32 x1, .int .u32 x2, .int .u32 x3, .int .u32 (x4 : Int)] 27))
        have bx : Bx (wr.alloc (.cells #[.int .u32 x0, .int .u32 x1, .int .u32 x2, .int .u32 x3, .int .u32 (x4 : Int)] 27)) wr.heap.size ⟨x0, x1, x2, x3, x4⟩ := Bx.new wr ⟨x0, x1, x2, x3, x4⟩
        generalize clearL (l.take n) a = L at *
        replace he := Lib.hid he
        clear hkp hdr hm
        go_wp2_with (at_builtin; go_must (refine wpList_push rfl _ _ 22 rfl 27 _ 20 opE_length (by decide) opE_one Try.underlying22 info_op rfl _ L.length L rfl hm'.own wr.heap.size ⟨x0, x1, x2, x3, x4⟩ 27 rfl bx (by unfold maxLen; omega) (by omega) ?_); intro vv w6 h6 g6 a6)
        have hm6 : Hid (Mine opE 5 27 w w6 vv (clearL (l.take (n + 1)) a)) := by rw [hk.out]; exact hm'.pushed h6 g6 a6
        clear h6 g6 a6 hm'
        go_roundw
        case rel => exact ⟨n + 1, by omega, by go_num, hm6.out⟩
        case measure => simp [intOf]; omega
    · rw [List.take_of_length_le (by omega)] at hm
      have hr' := hR.out
      subst hr'
      replace hm := Lib.hid hm
      go_wp2
      go_ret2
      exact ⟨_, rfl, hm.out⟩
end Go.Proofs.Ythclpefomhakdaa
