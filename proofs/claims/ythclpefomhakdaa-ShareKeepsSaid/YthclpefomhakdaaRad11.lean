/- Add, Drop, Clear: the document's. -/
import Derived.Test.YthclpefomhakdaaRright11
import Derived.Test.YthclpefomhakdaaAns11
namespace Go.Proofs.Ythclpefomhakdaa
open Go.RowKit

theorem Mine.joined {w w1 w2 : World} {v v' : Value} {l ys : List Opn} (h : Mine opE 5 27 w w1 v l) (h1 : w2.ownsRow 0 27 5 v' (l.length + ys.length) (encs opE (l ++ ys))) (h2 : w1.grownBy w2 v.ownBlock) (h3 : v'.ownBlock = v.ownBlock ∨ v'.ownBlock = some w1.heap.size) : Mine opE 5 27 w w2 v' (l ++ ys) := by
  refine ⟨by rw [List.length_append]; exact h1, fun g hg => ?_, h.only.grown h2 (fun j hj => .inr (h.new j hj))⟩
  rcases h3 with h3 | h3
  · exact h.new g (by rw [← h3]; exact hg)
  · rw [h3] at hg
    injection hg with hg
    have := h.only.size
    omega
theorem Bx.els {w : World} {g : Nat} {x : Opn} (h : Bx w g x) : Els opE 5 w (some ⟨g, 0, none⟩) [x] := by
  refine .inr ⟨g, 0, rfl, h.lt, fun i hi j v hv => ?_⟩
  obtain rfl : i = 0 := by simp at hi; omega
  have := Blk.cell h j
  rw [show 0 + 0 * 5 + j = j by omega, this, ← hv]
  simp [opA, opE]
theorem mine_le4 {l : List Opn} (h : RightP l) (a : Int) : mineN l a ≤ 4 := by
  by_cases e : ∃ x ∈ l, x.client = a
  · obtain ⟨x, hx, rfl⟩ := e
    exact h.few x hx
  · have : mineN l a = 0 := by
      unfold mineN
      rw [List.countP_eq_zero]
      intro x hx
      simpa using fun k => e ⟨x, hx, k⟩
    omega
theorem idx_eq {l : List Opn} (h : l.Pairwise keyLt) {i j : Nat} {x : Opn} (hi : l[i]? = some x) (hj : l[j]? = some x) : i = j := by
  obtain ⟨i1, e1⟩ := List.getElem?_eq_some_iff.1 hi
  obtain ⟨j1, e2⟩ := List.getElem?_eq_some_iff.1 hj
  rw [List.pairwise_iff_getElem] at h
  rcases Nat.lt_trichotomy i j with a | a | a
  · have := h i j i1 j1 a
    rw [e1, e2] at this
    exact absurd this (keyLt_irr x)
  · exact a
  · have := h j i j1 i1 a
    rw [e1, e2] at this
    exact absurd this (keyLt_irr x)
theorem wrap_succ2 (n : Nat) (h : n ≤ 1048576) : IntKind.i64.wrap ((n : Int) + 1) = (n : Int) + 1 := by simp only [IntKind.wrap, IntKind.bits, IntKind.signed]; simp; omega

set_option maxRecDepth 100000 in
set_option maxHeartbeats 8000000 in
theorem radd_any (w : World) (A : Option Addr) (c : Nat) (l : List Opn) (o : Opn) (hb : Els opE 5 w A l) (hl : l.length ≤ 9223372036854775807) (hc : l.length ≤ c) :
    Calls Try.prog 19 #[.slice A l.length c, opV o] w fun e w' => PairAns w w' e (addR l o) := by
  obtain ⟨R, hR⟩ : ∃ R, R = addR l o := ⟨_, rfl⟩
  rw [← hR]
  replace hR := Lib.hid hR
  have hRt := fun W (k : Only [] w W) => rright_any W A c l (hb.kept k (by simp)) hl
  have hV := fun W => one_any W o
  have hFi := fun W (k : Only [] w W) => rfind_any W A c l o.client o.handle (hb.kept k (by simp)) hl
  have hMi := fun W (k : Only [] w W) => mine_any W A c l o.client (hb.kept k (by simp)) hl
  have hm4 := fun h : RightP l => mine_le4 h o.client
  have hpo := posO_le l o
  have hplt := fun (h : RightP l) (j : Nat) (y : Opn) => posO_iff h.rise (t := o) (j := j) (x := y)
  have bo := Bx.new w o
  have k0 : Only [] w (w.alloc (.cells #[.int .u32 o.client, .int .u32 o.handle, .int .u32 o.file, .int .u32 o.access, .int .u32 (o.deny : Int)] 27)) := (Only.refl [] w).alloc _
  have r1 := addR_1 (l := l) (o := o)
  have r8 := addR_8 (l := l) (o := o)
  have r16 := addR_16 (l := l) (o := o)
  have r13 := addR_13 (l := l) (o := o)
  have r0 := addR_0 (l := l) (o := o)
  rw [← hR.out] at r1 r8 r16 r13 r0
  clear hR
  obtain ⟨po, hpq⟩ : ∃ po, po = posO l o := ⟨_, rfl⟩
  rw [← hpq] at hpo hplt r0
  clear hpq
  generalize mineN l o.client = mn at *
  obtain ⟨o0, o1, o2, o3, o4⟩ := o
  have hv : opV ⟨o0, o1, o2, o3, o4⟩ = .agg #[.int .u32 o0, .int .u32 o1, .int .u32 o2, .int .u32 o3, .int .u32 (o4 : Int)] := rfl
  rw [hv] at hV ⊢
  clear hv
  simp only at hFi hMi bo k0 r8 r16 r13 r0
  replace hRt := Lib.hid hRt
  replace hV := Lib.hid hV
  replace hFi := Lib.hid hFi
  replace hMi := Lib.hid hMi
  replace hm4 := Lib.hid hm4
  replace hplt := Lib.hid hplt
  replace r1 := Lib.hid r1
  replace r8 := Lib.hid r8
  replace r16 := Lib.hid r16
  replace r13 := Lib.hid r13
  replace r0 := Lib.hid r0
  go_enter Try.func19, Try.ntmps19
  go_wp2_with fail
  refine (hRt.out _ k0).mono ?_; rintro e w1 ⟨rfl, k1'⟩
  have k1 := k0.trans k1'
  have b1 := Bx.kept bo k1' (by simp)
  generalize w.heap.size = q at *
  obtain ⟨c0, c1, c2, c3, c4⟩ := b1.cells
  simp only at c0 c1 c2 c3 c4
  clear bo k1'
  by_cases hr : RightP l
  rotate_left
  · have hR := r1.out (fun h => hr h.1)
    subst hR
    rw [decide_eq_false hr]
    go_wp2
    go_ret2
    exact PairAns.no k1
  rw [decide_eq_true hr]
  have hl12 : l.length ≤ 12 := hr.len
  replace hr := Lib.hid hr
  go_wp2_with fail
  refine (hV.out _).mono ?_; rintro e w2 ⟨rfl, k2'⟩
  have k2 := k1.trans k2'
  have b2 := Bx.kept b1 k2' (by simp)
  clear c0 c1 c2 c3 c4 b1 k2' k1
  obtain ⟨c0, c1, c2, c3, c4⟩ := b2.cells
  simp only at c0 c1 c2 c3 c4
  by_cases hv : validO ⟨o0, o1, o2, o3, o4⟩
  rotate_left
  · have hR := r1.out (fun h => hv h.2)
    subst hR
    rw [decide_eq_false hv]
    go_wp2
    go_ret2
    exact PairAns.no k2
  rw [decide_eq_true hv]
  have hrv : Hid (RightP l ∧ validO ⟨o0, o1, o2, o3, o4⟩) := ⟨hr.out, hv⟩
  replace hv := Lib.hid hv
  go_wp2_with fail
  refine (hFi.out _ k2).mono ?_; rintro e w3 ⟨⟨r, rfl, hr0⟩, rfl⟩
  by_cases h0 : 0 ≤ r
  · have hR := r8.out hrv.out (by
      rcases hr0.out with h | ⟨m, x, _, _, h⟩
      · omega
      · rw [h]; rfl)
    have d0 : decide (0 ≤ r) = true := decide_eq_true h0
    subst hR
    go_wp2
    go_ret2
    exact PairAns.no k2
  have hfn : Hid ((findK l o0 o1).isSome = false) := by
    rcases hr0.out with h | ⟨m, x, h1, _, h⟩
    · rw [h.2]; exact rfl
    · omega
  have d0 : decide (0 ≤ r) = false := decide_eq_false h0
  by_cases h12 : (l.length : Int) = 12
  · have hR := r16.out hrv.out hfn.out (.inl (by omega))
    have d12 : ((l.length : Int) == 12) = true := by simpa using h12
    replace h12 := Lib.hid h12
    subst hR
    go_wp2
    go_ret2
    exact PairAns.no k2
  have d12 : ((l.length : Int) == 12) = false := by simpa using h12
  go_wp2_with fail
  refine (hMi.out _ k2).mono ?_; rintro e w3 ⟨rfl, rfl⟩
  by_cases h4 : (mn : Int) = 4
  · have hR := r16.out hrv.out hfn.out (.inr (by omega))
    have d4 : ((mn : Int) == 4) = true := by simpa using h4
    replace h4 := Lib.hid h4
    subst hR
    go_wp2
    go_ret2
    exact PairAns.no k2
  have d4 : ((mn : Int) == 4) = false := by simpa using h4
  have hfu : Hid (¬ (12 ≤ l.length ∨ 4 ≤ mn)) := by have := hm4.out hr.out; show ¬ _; omega
  replace hm4 := Lib.hid hm4
  replace h12 := Lib.hid h12
  replace h4 := Lib.hid h4
  clear d0 h0 hr0 c0 c1 c2 c3 c4
  go_wp2_with fail
  generalize w3 = w2 at *
  go_loopw [6] (fun i wr => ∃ n : Nat, n ≤ l.length ∧ i = .int .i64 n ∧ Hid (∀ y ∈ l.take n, ¬ clashO ⟨o0, o1, o2, o3, o4⟩ y) ∧ Only [] w wr ∧ Bx wr q ⟨o0, o1, o2, o3, o4⟩) (fun i _ => l.length - (intOf i).toNat)
  case atStart => exact ⟨0, Nat.zero_le _, rfl, fun y hy => by simp at hy, k2, b2⟩
  case round =>
    clear k2 b2
    obtain ⟨n, hn, rfl, hcl, hk, hB⟩ := hrel
    by_cases hlt : n < l.length
    · obtain ⟨g, o, rfl, hg, hat⟩ := hb.get hlt
      have hy : l[n]? = some l[n] := List.getElem?_eq_getElem hlt
      have hCx := fun W => clash_any W l[n] ⟨o0, o1, o2, o3, o4⟩ (hr.out.ok _ (List.getElem_mem hlt)) hv.out
      have hcy := fun W (k' : Only [] wr W) => ops_at (hat.kept (hk.trans k') (by simp)) hlt
      have hmem : l[n] ∈ l := List.getElem_mem hlt
      generalize l[n] = y at *
      have hnx : ¬ clashO y ⟨o0, o1, o2, o3, o4⟩ → Hid (∀ y ∈ l.take (n + 1), ¬ clashO ⟨o0, o1, o2, o3, o4⟩ y) := fun h z hz => by
        rw [get_snoc hy, List.mem_append, List.mem_singleton] at hz
        rcases hz with hz | rfl
        · exact hcl.out z hz
        · exact fun hc => h (clash_symm hc)
      obtain ⟨y0, y1, y2, y3, y4⟩ := y
      unfold opV at hCx
      simp only at hCx hcy
      have KP : Hid (∀ w', Only [] wr w' → w'.cell? ⟨g, o + n * 5, none⟩ = some (.int .u32 y0) ∧ w'.cell? ⟨g, o + n * 5 + 1, none⟩ = some (.int .u32 y1) ∧ w'.cell? ⟨g, o + n * 5 + 2, none⟩ = some (.int .u32 y2) ∧ w'.cell? ⟨g, o + n * 5 + 3, none⟩ = some (.int .u32 y3) ∧ w'.cell? ⟨g, o + n * 5 + 4, none⟩ = some (.int .u32 (y4 : Int)) ∧ w'.cell? ⟨q, 0, none⟩ = some (.int .u32 o0) ∧ w'.cell? ⟨q, 1, none⟩ = some (.int .u32 o1) ∧ w'.cell? ⟨q, 2, none⟩ = some (.int .u32 o2) ∧ w'.cell? ⟨q, 3, none⟩ = some (.int .u32 o3) ∧ w'.cell? ⟨q, 4, none⟩ = some (.int .u32 (o4 : Int))) := fun w' kk => by
        obtain ⟨a0, a1, a2, a3, a4⟩ := hcy w' kk
        exact ⟨a0, a1, a2, a3, a4, (Bx.kept hB kk (by simp)).cells⟩
      clear hcy hat
      replace hy := Lib.hid hy
      by_cases hcc : clashO ⟨y0, y1, y2, y3, y4⟩ ⟨o0, o1, o2, o3, o4⟩
      · have hR := r13.out hrv.out hfn.out hfu.out ⟨_, hmem, clash_symm hcc⟩
        subst hR
        rw [decide_eq_true hcc] at hCx
        replace hCx := Lib.hid hCx
        clear hnx hcc hmem
        go_wp2_with fail
        refine wp_region_held_drew (S := fun w' => w'.cell? ⟨g, o + n * 5, none⟩ = some (.int .u32 y0) ∧ w'.cell? ⟨g, o + n * 5 + 1, none⟩ = some (.int .u32 y1) ∧ w'.cell? ⟨g, o + n * 5 + 2, none⟩ = some (.int .u32 y2) ∧ w'.cell? ⟨g, o + n * 5 + 3, none⟩ = some (.int .u32 y3) ∧ w'.cell? ⟨g, o + n * 5 + 4, none⟩ = some (.int .u32 (y4 : Int)) ∧ w'.cell? ⟨q, 0, none⟩ = some (.int .u32 o0) ∧ w'.cell? ⟨q, 1, none⟩ = some (.int .u32 o1) ∧ w'.cell? ⟨q, 2, none⟩ = some (.int .u32 o2) ∧ w'.cell? ⟨q, 3, none⟩ = some (.int .u32 o3) ∧ w'.cell? ⟨q, 4, none⟩ = some (.int .u32 (o4 : Int))) (by kernel_rfl) (KP.out _ (Only.refl _ _).drew) (fun hHeld => ?_)
        refine held_take 0 (.slice (some ⟨g, o, none⟩) l.length c) rfl (by kernel_rfl) (by kernel_rfl) (by kernel_rfl) (fun _ _ _ h => h) hHeld (Or.inl ⟨by rfl, fun w' hSw => by (try dsimp only at hSw); (try subst hSw); go_simp⟩) ?_
        simp only [Act.put, List.setIfInBounds_toArray, List.set_cons_zero, List.set_cons_succ]
        refine held_take 1 (.int .i64 n) rfl (by kernel_rfl) (by kernel_rfl) (by kernel_rfl) (fun _ _ _ h => h) hHeld (Or.inl ⟨by rfl, fun w' hSw => by (try dsimp only at hSw); (try subst hSw); go_simp⟩) ?_
        simp only [Act.put, List.setIfInBounds_toArray, List.set_cons_zero, List.set_cons_succ]
        refine held_take 2 (.pointer (some ⟨g, o + n * 5, none⟩)) rfl (by kernel_rfl) (by kernel_rfl) (by kernel_rfl) (fun _ _ _ h => h) hHeld (Or.inl ⟨by rfl, fun w' hSw => by (try dsimp only at hSw); (try subst hSw); go_simp⟩) ?_
        simp only [Act.put, List.setIfInBounds_toArray, List.set_cons_zero, List.set_cons_succ]
        refine held_take 3 (.agg #[.int .u32 y0, .int .u32 y1, .int .u32 y2, .int .u32 y3, .int .u32 (y4 : Int)]) rfl (by kernel_rfl) (by kernel_rfl) (by kernel_rfl) (fun _ _ _ h => h) hHeld (Or.inl ⟨by rfl, fun w' hSw => by (try dsimp only at hSw); (try subst hSw); go_simp⟩) ?_
        simp only [Act.put, List.setIfInBounds_toArray, List.set_cons_zero, List.set_cons_succ]
        refine held_take 4 (.agg #[.int .u32 o0, .int .u32 o1, .int .u32 o2, .int .u32 o3, .int .u32 (o4 : Int)]) rfl (by kernel_rfl) (by kernel_rfl) (by kernel_rfl) (fun _ _ _ h => h) hHeld (Or.inl ⟨by rfl, fun w' hSw => by (try dsimp only at hSw); (try subst hSw); go_simp⟩) ?_
        simp only [Act.put, List.setIfInBounds_toArray, List.set_cons_zero, List.set_cons_succ]
        refine held_step 5 rfl (by kernel_rfl) (fun K hK => ?_)
        go_simp
        refine (hCx.out _).mono ?_; rintro e wB ⟨rfl, kB⟩; replace kB := kB.undrew
        go_wp2_with fail
        refine hK.out _ _ (KP.out _ kB) (fun hHeld => ?_)
        clear hK K
        refine wpAnyH_done (by kernel_rfl) ?_ _
        clear hHeld
        go_wp2
        go_ret2
        exact PairAns.no (hk.trans kB)
      · have hnx := hnx hcc
        rw [decide_eq_false hcc] at hCx
        replace hCx := Lib.hid hCx
        clear hcc hmem
        go_wp2_with fail
        refine wp_region_held_drew (S := fun w' => w'.cell? ⟨g, o + n * 5, none⟩ = some (.int .u32 y0) ∧ w'.cell? ⟨g, o + n * 5 + 1, none⟩ = some (.int .u32 y1) ∧ w'.cell? ⟨g, o + n * 5 + 2, none⟩ = some (.int .u32 y2) ∧ w'.cell? ⟨g, o + n * 5 + 3, none⟩ = some (.int .u32 y3) ∧ w'.cell? ⟨g, o + n * 5 + 4, none⟩ = some (.int .u32 (y4 : Int)) ∧ w'.cell? ⟨q, 0, none⟩ = some (.int .u32 o0) ∧ w'.cell? ⟨q, 1, none⟩ = some (.int .u32 o1) ∧ w'.cell? ⟨q, 2, none⟩ = some (.int .u32 o2) ∧ w'.cell? ⟨q, 3, none⟩ = some (.int .u32 o3) ∧ w'.cell? ⟨q, 4, none⟩ = some (.int .u32 (o4 : Int))) (by kernel_rfl) (KP.out _ (Only.refl _ _).drew) (fun hHeld => ?_)
        refine held_take 0 (.slice (some ⟨g, o, none⟩) l.length c) rfl (by kernel_rfl) (by kernel_rfl) (by kernel_rfl) (fun _ _ _ h => h) hHeld (Or.inl ⟨by rfl, fun w' hSw => by (try dsimp only at hSw); (try subst hSw); go_simp⟩) ?_
        simp only [Act.put, List.setIfInBounds_toArray, List.set_cons_zero, List.set_cons_succ]
        refine held_take 1 (.int .i64 n) rfl (by kernel_rfl) (by kernel_rfl) (by kernel_rfl) (fun _ _ _ h => h) hHeld (Or.inl ⟨by rfl, fun w' hSw => by (try dsimp only at hSw); (try subst hSw); go_simp⟩) ?_
        simp only [Act.put, List.setIfInBounds_toArray, List.set_cons_zero, List.set_cons_succ]
        refine held_take 2 (.pointer (some ⟨g, o + n * 5, none⟩)) rfl (by kernel_rfl) (by kernel_rfl) (by kernel_rfl) (fun _ _ _ h => h) hHeld (Or.inl ⟨by rfl, fun w' hSw => by (try dsimp only at hSw); (try subst hSw); go_simp⟩) ?_
        simp only [Act.put, List.setIfInBounds_toArray, List.set_cons_zero, List.set_cons_succ]
        refine held_take 3 (.agg #[.int .u32 y0, .int .u32 y1, .int .u32 y2, .int .u32 y3, .int .u32 (y4 : Int)]) rfl (by kernel_rfl) (by kernel_rfl) (by kernel_rfl) (fun _ _ _ h => h) hHeld (Or.inl ⟨by rfl, fun w' hSw => by (try dsimp only at hSw); (try subst hSw); go_simp⟩) ?_
        simp only [Act.put, List.setIfInBounds_toArray, List.set_cons_zero, List.set_cons_succ]
        refine held_take 4 (.agg #[.int .u32 o0, .int .u32 o1, .int .u32 o2, .int .u32 o3, .int .u32 (o4 : Int)]) rfl (by kernel_rfl) (by kernel_rfl) (by kernel_rfl) (fun _ _ _ h => h) hHeld (Or.inl ⟨by rfl, fun w' hSw => by (try dsimp only at hSw); (try subst hSw); go_simp⟩) ?_
        simp only [Act.put, List.setIfInBounds_toArray, List.set_cons_zero, List.set_cons_succ]
        refine held_step 5 rfl (by kernel_rfl) (fun K hK => ?_)
        go_simp
        refine (hCx.out _).mono ?_; rintro e wB ⟨rfl, kB⟩; replace kB := kB.undrew
        go_wp2_with fail
        refine hK.out _ _ (KP.out _ kB) (fun hHeld => ?_)
        clear hK K
        refine wpAnyH_done (by kernel_rfl) ?_ _
        clear hHeld
        go_wp2_with fail
        go_roundw
        case rel => exact ⟨n + 1, by omega, by go_num, hnx, hk.trans kB, Bx.kept hB kB (by simp)⟩
        case measure => simp [intOf]; omega
    · have hR := r0.out hrv.out hfn.out hfu.out (fun ⟨y, hy, hc⟩ => by
        have h := hcl.out y
        rw [List.take_of_length_le (by omega)] at h
        exact h hy hc)
      replace hR := Lib.hid hR
      have hhd := run_head (P := Try.prog) 22 27 Try.underlying22 size_op' A l.length c po (po : Int) rfl (by omega)
      have htl := run_tail (P := Try.prog) 22 27 Try.underlying22 size_op' A l.length c po (po : Int) rfl (by omega)
      have h1 : Els opE 5 w (tailA A c 0 5) (l.take po) := hb.head
      have h2 : Els opE 5 w (tailA A c po 5) (l.drop po) := hb.tail hc hpo
      have n1 : (l.take po).length = po := by rw [List.length_take]; omega
      have n2 : (l.drop po).length = l.length - po := List.length_drop
      generalize l.take po = l1 at *
      generalize l.drop po = l2 at *
      have n9 : l1.length ≤ 1000 ∧ l2.length ≤ 1000 := ⟨by omega, by omega⟩
      have n8 : l1.length = po := n1
      obtain ⟨n9, n7⟩ := n9
      replace n8 := Lib.hid n8
      replace hhd := Lib.hid hhd
      replace htl := Lib.hid htl
      replace h1 := Lib.hid h1
      replace h2 := Lib.hid h2
      replace n1 := Lib.hid n1
      replace n2 := Lib.hid n2
      have hlt' : Hid (¬ n < l.length) := hlt
      clear hcl hRt hMi hFi r0 r1 r8 r13 r16 hm4
      go_wp2_with fail
      clear hlt
      go_loopw [7] (fun i wr => ∃ k : Nat, k ≤ po ∧ i = .int .i64 k ∧ Only [] w wr ∧ Bx wr q ⟨o0, o1, o2, o3, o4⟩) (fun i _ => po - (intOf i).toNat)
      case atStart => exact ⟨0, by omega, rfl, hk, hB⟩
      case round =>
        clear hk hB
        obtain ⟨k, hkp, rfl, hk, hB⟩ := hrel
        by_cases hlt2 : k < po
        · have hk' : k < l.length := by omega
          have hkI : (k : Int) < (l.length : Int) := by omega
          have hki := (hplt.out hr.out k _ (List.getElem?_eq_getElem hk')).2 hlt2
          obtain ⟨g, o, rfl, _, hat⟩ := hb.get hk'
          have hcy := fun W (k' : Only [] wr W) => ops_at (hat.kept (hk.trans k') (by simp)) hk'
          have hLx := fun W => less_any W l[k] ⟨o0, o1, o2, o3, o4⟩
          generalize l[k] = y at *
          rw [decide_eq_true hki] at hLx
          obtain ⟨y0, y1, y2, y3, y4⟩ := y
          unfold opV at hLx
          simp only at hLx hcy
          have KP : Hid (∀ w', Only [] wr w' → w'.cell? ⟨g, o + k * 5, none⟩ = some (.int .u32 y0) ∧ w'.cell? ⟨g, o + k * 5 + 1, none⟩ = some (.int .u32 y1) ∧ w'.cell? ⟨g, o + k * 5 + 2, none⟩ = some (.int .u32 y2) ∧ w'.cell? ⟨g, o + k * 5 + 3, none⟩ = some (.int .u32 y3) ∧ w'.cell? ⟨g, o + k * 5 + 4, none⟩ = some (.int .u32 (y4 : Int)) ∧ w'.cell? ⟨q, 0, none⟩ = some (.int .u32 o0) ∧ w'.cell? ⟨q, 1, none⟩ = some (.int .u32 o1) ∧ w'.cell? ⟨q, 2, none⟩ = some (.int .u32 o2) ∧ w'.cell? ⟨q, 3, none⟩ = some (.int .u32 o3) ∧ w'.cell? ⟨q, 4, none⟩ = some (.int .u32 (o4 : Int))) := fun w' kk => by
            obtain ⟨a0, a1, a2, a3, a4⟩ := hcy w' kk
            exact ⟨a0, a1, a2, a3, a4, (Bx.kept hB kk (by simp)).cells⟩
          replace hLx := Lib.hid hLx
          replace hki := Lib.hid hki
          clear hcy hat
          have hd1 : decide ((k : Int) < (l.length : Int)) = true := decide_eq_true hkI
          go_wp2_with fail
          refine wp_region_held_drew (S := fun w' => w'.cell? ⟨g, o + k * 5, none⟩ = some (.int .u32 y0) ∧ w'.cell? ⟨g, o + k * 5 + 1, none⟩ = some (.int .u32 y1) ∧ w'.cell? ⟨g, o + k * 5 + 2, none⟩ = some (.int .u32 y2) ∧ w'.cell? ⟨g, o + k * 5 + 3, none⟩ = some (.int .u32 y3) ∧ w'.cell? ⟨g, o + k * 5 + 4, none⟩ = some (.int .u32 (y4 : Int)) ∧ w'.cell? ⟨q, 0, none⟩ = some (.int .u32 o0) ∧ w'.cell? ⟨q, 1, none⟩ = some (.int .u32 o1) ∧ w'.cell? ⟨q, 2, none⟩ = some (.int .u32 o2) ∧ w'.cell? ⟨q, 3, none⟩ = some (.int .u32 o3) ∧ w'.cell? ⟨q, 4, none⟩ = some (.int .u32 (o4 : Int))) (by kernel_rfl) (KP.out _ (Only.refl _ _).drew) (fun hHeld => ?_)
          refine held_take 0 (.int .i64 k) rfl (by kernel_rfl) (by kernel_rfl) (by kernel_rfl) (fun _ _ _ h => h) hHeld (Or.inl ⟨by rfl, fun w' hSw => by (try dsimp only at hSw); (try subst hSw); go_simp⟩) ?_
          simp only [Act.put, List.setIfInBounds_toArray, List.set_cons_zero, List.set_cons_succ]
          refine held_take 1 (.slice (some ⟨g, o, none⟩) l.length c) rfl (by kernel_rfl) (by kernel_rfl) (by kernel_rfl) (fun _ _ _ h => h) hHeld (Or.inl ⟨by rfl, fun w' hSw => by (try dsimp only at hSw); (try subst hSw); go_simp⟩) ?_
          simp only [Act.put, List.setIfInBounds_toArray, List.set_cons_zero, List.set_cons_succ]
          refine held_step 2 rfl (by kernel_rfl) (fun K hK => ?_)
          go_simp
          go_wp2_with fail
          refine hK.out _ _ (KP.out _ (Only.refl _ _).drew) (fun hHeld => ?_)
          clear hK K
          refine held_take 3 (.bool true) rfl (by kernel_rfl) (by kernel_rfl) (by kernel_rfl) (fun _ _ _ h => h) hHeld (Or.inl ⟨by rfl, fun w' hSw => by (try dsimp only at hSw); (try subst hSw); go_simp⟩) ?_
          simp only [Act.put, List.setIfInBounds_toArray, List.set_cons_zero, List.set_cons_succ]
          refine held_take 4 (.bool true) rfl (by kernel_rfl) (by kernel_rfl) (by kernel_rfl) (fun _ _ _ h => h) hHeld (Or.inl ⟨by rfl, fun w' hSw => by (try dsimp only at hSw); (try subst hSw); go_simp⟩) ?_
          simp only [Act.put, List.setIfInBounds_toArray, List.set_cons_zero, List.set_cons_succ]
          refine held_take 5 (.slice (some ⟨g, o, none⟩) l.length c) rfl (by kernel_rfl) (by kernel_rfl) (by kernel_rfl) (fun _ _ _ h => h) hHeld (Or.inl ⟨by rfl, fun w' hSw => by (try dsimp only at hSw); (try subst hSw); go_simp⟩) ?_
          simp only [Act.put, List.setIfInBounds_toArray, List.set_cons_zero, List.set_cons_succ]
          refine held_take 6 (.int .i64 k) rfl (by kernel_rfl) (by kernel_rfl) (by kernel_rfl) (fun _ _ _ h => h) hHeld (Or.inl ⟨by rfl, fun w' hSw => by (try dsimp only at hSw); (try subst hSw); go_simp⟩) ?_
          simp only [Act.put, List.setIfInBounds_toArray, List.set_cons_zero, List.set_cons_succ]
          refine held_take 7 (.pointer (some ⟨g, o + k * 5, none⟩)) rfl (by kernel_rfl) (by kernel_rfl) (by kernel_rfl) (fun _ _ _ h => h) hHeld (Or.inl ⟨by rfl, fun w' hSw => by (try dsimp only at hSw); (try subst hSw); go_simp⟩) ?_
          simp only [Act.put, List.setIfInBounds_toArray, List.set_cons_zero, List.set_cons_succ]
          refine held_take 8 (.agg #[.int .u32 y0, .int .u32 y1, .int .u32 y2, .int .u32 y3, .int .u32 (y4 : Int)]) rfl (by kernel_rfl) (by kernel_rfl) (by kernel_rfl) (fun _ _ _ h => h) hHeld (Or.inl ⟨by rfl, fun w' hSw => by (try dsimp only at hSw); (try subst hSw); go_simp⟩) ?_
          simp only [Act.put, List.setIfInBounds_toArray, List.set_cons_zero, List.set_cons_succ]
          refine held_take 9 (.agg #[.int .u32 o0, .int .u32 o1, .int .u32 o2, .int .u32 o3, .int .u32 (o4 : Int)]) rfl (by kernel_rfl) (by kernel_rfl) (by kernel_rfl) (fun _ _ _ h => h) hHeld (Or.inl ⟨by rfl, fun w' hSw => by (try dsimp only at hSw); (try subst hSw); go_simp⟩) ?_
          simp only [Act.put, List.setIfInBounds_toArray, List.set_cons_zero, List.set_cons_succ]
          refine held_step 10 rfl (by kernel_rfl) (fun K hK => ?_)
          go_simp
          refine (hLx.out _).mono ?_; rintro e wB ⟨rfl, kB⟩; replace kB := kB.undrew
          go_wp2_with fail
          refine hK.out _ _ (KP.out _ kB) (fun hHeld => ?_)
          clear hK K
          refine held_take 11 (.bool true) rfl (by kernel_rfl) (by kernel_rfl) (by kernel_rfl) (fun _ _ _ h => h) hHeld (Or.inl ⟨by rfl, fun w' hSw => by (try dsimp only at hSw); (try subst hSw); go_simp⟩) ?_
          simp only [Act.put, List.setIfInBounds_toArray, List.set_cons_zero, List.set_cons_succ]
          refine wpAnyH_done (by kernel_rfl) ?_ _
          clear hHeld
          go_wp2_with fail
          go_roundw
          case rel => exact ⟨k + 1, by omega, by go_num, hk.trans kB, Bx.kept hB kB (by simp)⟩
          case measure => simp [intOf]; omega
        · obtain rfl : k = po := by omega
          by_cases hkl : k < l.length
          · have hkI : (k : Int) < (l.length : Int) := by omega
            have hki : ¬ keyLt l[k] ⟨o0, o1, o2, o3, o4⟩ := fun h => by have := (hplt.out hr.out k _ (List.getElem?_eq_getElem hkl)).1 h; omega
            obtain ⟨g, o, hA, _, hat⟩ := hb.get hkl
            have hcy := fun W (k' : Only [] wr W) => ops_at (hat.kept (hk.trans k') (by simp)) hkl
            have hLx := fun W => less_any W l[k] ⟨o0, o1, o2, o3, o4⟩
            generalize l[k] = y at *
            rw [decide_eq_false hki] at hLx
            obtain ⟨y0, y1, y2, y3, y4⟩ := y
            unfold opV at hLx
            simp only at hLx hcy
            have KP : Hid (∀ w', Only [] wr w' → w'.cell? ⟨g, o + k * 5, none⟩ = some (.int .u32 y0) ∧ w'.cell? ⟨g, o + k * 5 + 1, none⟩ = some (.int .u32 y1) ∧ w'.cell? ⟨g, o + k * 5 + 2, none⟩ = some (.int .u32 y2) ∧ w'.cell? ⟨g, o + k * 5 + 3, none⟩ = some (.int .u32 y3) ∧ w'.cell? ⟨g, o + k * 5 + 4, none⟩ = some (.int .u32 (y4 : Int)) ∧ w'.cell? ⟨q, 0, none⟩ = some (.int .u32 o0) ∧ w'.cell? ⟨q, 1, none⟩ = some (.int .u32 o1) ∧ w'.cell? ⟨q, 2, none⟩ = some (.int .u32 o2) ∧ w'.cell? ⟨q, 3, none⟩ = some (.int .u32 o3) ∧ w'.cell? ⟨q, 4, none⟩ = some (.int .u32 (o4 : Int))) := fun w' kk => by
              obtain ⟨a0, a1, a2, a3, a4⟩ := hcy w' kk
              exact ⟨a0, a1, a2, a3, a4, (Bx.kept hB kk (by simp)).cells⟩
            replace hLx := Lib.hid hLx
            replace hki := Lib.hid hki
            clear hcy hat
            have hd1 : decide ((k : Int) < (l.length : Int)) = true := decide_eq_true hkI
            subst hA
            go_wp2_with fail
            refine wp_region_held_drew (S := fun w' => w'.cell? ⟨g, o + k * 5, none⟩ = some (.int .u32 y0) ∧ w'.cell? ⟨g, o + k * 5 + 1, none⟩ = some (.int .u32 y1) ∧ w'.cell? ⟨g, o + k * 5 + 2, none⟩ = some (.int .u32 y2) ∧ w'.cell? ⟨g, o + k * 5 + 3, none⟩ = some (.int .u32 y3) ∧ w'.cell? ⟨g, o + k * 5 + 4, none⟩ = some (.int .u32 (y4 : Int)) ∧ w'.cell? ⟨q, 0, none⟩ = some (.int .u32 o0) ∧ w'.cell? ⟨q, 1, none⟩ = some (.int .u32 o1) ∧ w'.cell? ⟨q, 2, none⟩ = some (.int .u32 o2) ∧ w'.cell? ⟨q, 3, none⟩ = some (.int .u32 o3) ∧ w'.cell? ⟨q, 4, none⟩ = some (.int .u32 (o4 : Int))) (by kernel_rfl) (KP.out _ (Only.refl _ _).drew) (fun hHeld => ?_)
            refine held_take 0 (.int .i64 k) rfl (by kernel_rfl) (by kernel_rfl) (by kernel_rfl) (fun _ _ _ h => h) hHeld (Or.inl ⟨by rfl, fun w' hSw => by (try dsimp only at hSw); (try subst hSw); go_simp⟩) ?_
            simp only [Act.put, List.setIfInBounds_toArray, List.set_cons_zero, List.set_cons_succ]
            refine held_take 1 (.slice (some ⟨g, o, none⟩) l.length c) rfl (by kernel_rfl) (by kernel_rfl) (by kernel_rfl) (fun _ _ _ h => h) hHeld (Or.inl ⟨by rfl, fun w' hSw => by (try dsimp only at hSw); (try subst hSw); go_simp⟩) ?_
            simp only [Act.put, List.setIfInBounds_toArray, List.set_cons_zero, List.set_cons_succ]
            refine held_step 2 rfl (by kernel_rfl) (fun K hK => ?_)
            go_simp
            go_wp2_with fail
            refine hK.out _ _ (KP.out _ (Only.refl _ _).drew) (fun hHeld => ?_)
            clear hK K
            refine held_take 3 (.bool true) rfl (by kernel_rfl) (by kernel_rfl) (by kernel_rfl) (fun _ _ _ h => h) hHeld (Or.inl ⟨by rfl, fun w' hSw => by (try dsimp only at hSw); (try subst hSw); go_simp⟩) ?_
            simp only [Act.put, List.setIfInBounds_toArray, List.set_cons_zero, List.set_cons_succ]
            refine held_take 4 (.bool true) rfl (by kernel_rfl) (by kernel_rfl) (by kernel_rfl) (fun _ _ _ h => h) hHeld (Or.inl ⟨by rfl, fun w' hSw => by (try dsimp only at hSw); (try subst hSw); go_simp⟩) ?_
            simp only [Act.put, List.setIfInBounds_toArray, List.set_cons_zero, List.set_cons_succ]
            refine held_take 5 (.slice (some ⟨g, o, none⟩) l.length c) rfl (by kernel_rfl) (by kernel_rfl) (by kernel_rfl) (fun _ _ _ h => h) hHeld (Or.inl ⟨by rfl, fun w' hSw => by (try dsimp only at hSw); (try subst hSw); go_simp⟩) ?_
            simp only [Act.put, List.setIfInBounds_toArray, List.set_cons_zero, List.set_cons_succ]
            refine held_take 6 (.int .i64 k) rfl (by kernel_rfl) (by kernel_rfl) (by kernel_rfl) (fun _ _ _ h => h) hHeld (Or.inl ⟨by rfl, fun w' hSw => by (try dsimp only at hSw); (try subst hSw); go_simp⟩) ?_
            simp only [Act.put, List.setIfInBounds_toArray, List.set_cons_zero, List.set_cons_succ]
            refine held_take 7 (.pointer (some ⟨g, o + k * 5, none⟩)) rfl (by kernel_rfl) (by kernel_rfl) (by kernel_rfl) (fun _ _ _ h => h) hHeld (Or.inl ⟨by rfl, fun w' hSw => by (try dsimp only at hSw); (try subst hSw); go_simp⟩) ?_
            simp only [Act.put, List.setIfInBounds_toArray, List.set_cons_zero, List.set_cons_succ]
            refine held_take 8 (.agg #[.int .u32 y0, .int .u32 y1, .int .u32 y2, .int .u32 y3, .int .u32 (y4 : Int)]) rfl (by kernel_rfl) (by kernel_rfl) (by kernel_rfl) (fun _ _ _ h => h) hHeld (Or.inl ⟨by rfl, fun w' hSw => by (try dsimp only at hSw); (try subst hSw); go_simp⟩) ?_
            simp only [Act.put, List.setIfInBounds_toArray, List.set_cons_zero, List.set_cons_succ]
            refine held_take 9 (.agg #[.int .u32 o0, .int .u32 o1, .int .u32 o2, .int .u32 o3, .int .u32 (o4 : Int)]) rfl (by kernel_rfl) (by kernel_rfl) (by kernel_rfl) (fun _ _ _ h => h) hHeld (Or.inl ⟨by rfl, fun w' hSw => by (try dsimp only at hSw); (try subst hSw); go_simp⟩) ?_
            simp only [Act.put, List.setIfInBounds_toArray, List.set_cons_zero, List.set_cons_succ]
            refine held_step 10 rfl (by kernel_rfl) (fun K hK => ?_)
            go_simp
            refine (hLx.out _).mono ?_; rintro e wB ⟨rfl, kB⟩; replace kB := kB.undrew
            go_wp2_with fail
            refine hK.out _ _ (KP.out _ kB) (fun hHeld => ?_)
            clear hK K
            refine held_take 11 (.bool false) rfl (by kernel_rfl) (by kernel_rfl) (by kernel_rfl) (fun _ _ _ h => h) hHeld (Or.inl ⟨by rfl, fun w' hSw => by (try dsimp only at hSw); (try subst hSw); go_simp⟩) ?_
            simp only [Act.put, List.setIfInBounds_toArray, List.set_cons_zero, List.set_cons_succ]
            refine wpAnyH_done (by kernel_rfl) ?_ _
            clear hHeld
            have bB := Bx.kept hB kB (by simp)
            have hB := hk.trans kB
            obtain ⟨A, hA⟩ : ∃ A, A = some (⟨g, o, none⟩ : Addr) := ⟨_, rfl⟩
            rw [← hA] at hhd htl h1 h2 ⊢
            replace hA := Lib.hid hA
            clear KP kB hk
            replace hhd := hhd.out
            replace htl := htl.out
            go_wp2_with (at_builtin; first
              | (refine wpList_append_any opE_length (by decide) opE_one rfl (.tmp 60) (.tmp 63) 22 rfl 27 _ 20 Try.underlying22 info_op rfl _ 0 [] rfl (Mine.start opE 5 27 hB).own (tailA A c 0 5) c l1 (by rw [n1.out]; exact rfl) (h1.out.kept hB (by simp)) (by unfold maxLen; omega) (by omega) ?_
                 intro vv w6 h6 g6 a6
                 have g6' : wB.grownBy w6 none := g6
                 have k06 : Only [] wB w6 := (Only.refl [] wB).grown g6' (fun j hj => by cases hj)
                 have m1 : Hid (Mine opE 5 27 w w6 vv ([] ++ l1)) := Lib.hid ((Mine.start opE 5 27 hB).joined h6 g6 a6)
                 have h2' := h2.out.kept m1.out.only (by simp)
                 rw [List.nil_append] at m1
                 obtain ⟨y0, y1, y2, y3, y4⟩ := (bB.kept k06 (by simp)).cells
                 (try simp only at y0 y1 y2 y3 y4)
                 have bn : Hid (Bx (w6.alloc (.cells #[.int .u32 o0, .int .u32 o1, .int .u32 o2, .int .u32 o3, .int .u32 (o4 : Int)] 27)) w6.heap.size ⟨o0, o1, o2, o3, o4⟩) := Lib.hid (Bx.new w6 ⟨o0, o1, o2, o3, o4⟩)
                 have kn : Only [] w6 (w6.alloc (.cells #[.int .u32 o0, .int .u32 o1, .int .u32 o2, .int .u32 o3, .int .u32 (o4 : Int)] 27)) := (Only.refl [] w6).alloc _
                 clear h6 g6 g6' a6 hhd k06)
              | (refine wpList_append_any opE_length (by decide) opE_one rfl (.tmp 65) (.tmp 67) 22 rfl 27 _ 20 Try.underlying22 info_op rfl _ l1.length l1 rfl (m1.out.keep kn).own (some ⟨w6.heap.size, 0, none⟩) 1 [⟨o0, o1, o2, o3, o4⟩] rfl bn.out.els (by simp only [List.length_cons, List.length_nil]; unfold maxLen; omega) (by simp only [List.length_cons, List.length_nil]; omega) ?_
                 intro v2 w7 h7 g7 a7
                 have m2 : Hid (Mine opE 5 27 w w7 v2 (l1 ++ [⟨o0, o1, o2, o3, o4⟩])) := (m1.out.keep kn).joined h7 g7 a7
                 have n3 : (l1 ++ [(⟨o0, o1, o2, o3, o4⟩ : Opn)]).length = k + 1 := by simp only [List.length_append, List.length_cons, List.length_nil]; rw [n8.out]
                 have h2'' := h2.out.kept m2.out.only (by simp)
                 clear h7 g7 a7 m1 h2' bn kn y0 y1 y2 y3 y4)
              | (go_must (refine wpList_append_any opE_length (by decide) opE_one rfl (.tmp 69) (.tmp 72) 22 rfl 27 _ 20 Try.underlying22 info_op rfl _ _ _ rfl m2.out.own (tailA A c k 5) (c - k) l2 (by rw [n2.out]; exact rfl) h2'' (by rw [n3]; unfold maxLen; omega) (by rw [n3]; omega) ?_)
                 intro v3 w8 h8 g8 a8
                 have m3 : Hid (Mine opE 5 27 w w8 v3 ((l1 ++ [⟨o0, o1, o2, o3, o4⟩]) ++ l2)) := m2.out.joined h8 g8 a8
                 clear h8 g8 a8 m2 h2'' htl))
            have hr' := hR.out
            subst hr'
            go_ret2
            refine ⟨_, rfl, ?_⟩
            have := m3.out
            rwa [List.append_assoc] at this
          · have hkI : ¬ (k : Int) < (l.length : Int) := by omega
            have hd1 : decide ((k : Int) < (l.length : Int)) = false := decide_eq_false hkI
            go_wp2_with fail
            refine wp_region_held_drew (S := fun w' => True) (by kernel_rfl) trivial (fun hHeld => ?_)
            refine held_take 0 (.int .i64 k) rfl (by kernel_rfl) (by kernel_rfl) (by kernel_rfl) (fun _ _ _ h => h) hHeld (Or.inl ⟨by rfl, fun w' hSw => by (try dsimp only at hSw); (try subst hSw); go_simp⟩) ?_
            simp only [Act.put, List.setIfInBounds_toArray, List.set_cons_zero, List.set_cons_succ]
            refine held_take 1 (.slice A l.length c) rfl (by kernel_rfl) (by kernel_rfl) (by kernel_rfl) (fun _ _ _ h => h) hHeld (Or.inl ⟨by rfl, fun w' hSw => by (try dsimp only at hSw); (try subst hSw); go_simp⟩) ?_
            simp only [Act.put, List.setIfInBounds_toArray, List.set_cons_zero, List.set_cons_succ]
            refine held_step 2 rfl (by kernel_rfl) (fun K hK => ?_)
            go_simp
            go_wp2_with fail
            refine hK.out _ _ trivial (fun hHeld => ?_)
            clear hK K
            refine held_take 3 (.bool false) rfl (by kernel_rfl) (by kernel_rfl) (by kernel_rfl) (fun _ _ _ h => h) hHeld (Or.inl ⟨by rfl, fun w' hSw => by (try dsimp only at hSw); (try subst hSw); go_simp⟩) ?_
            simp only [Act.put, List.setIfInBounds_toArray, List.set_cons_zero, List.set_cons_succ]
            refine held_take 4 (.bool false) rfl (by kernel_rfl) (by kernel_rfl) (by kernel_rfl) (fun _ _ _ h => h) hHeld (Or.inl ⟨by rfl, fun w' hSw => by (try dsimp only at hSw); (try subst hSw); go_simp⟩) ?_
            simp only [Act.put, List.setIfInBounds_toArray, List.set_cons_zero, List.set_cons_succ]
            refine held_take 5 undef rfl (by kernel_rfl) (by kernel_rfl) (by kernel_rfl) (fun _ _ _ h => h) hHeld (Or.inr ⟨by rfl, rfl⟩) ?_
            simp only [Act.put, List.setIfInBounds_toArray, List.set_cons_zero, List.set_cons_succ]
            refine held_take 6 undef rfl (by kernel_rfl) (by kernel_rfl) (by kernel_rfl) (fun _ _ _ h => h) hHeld (Or.inr ⟨by rfl, rfl⟩) ?_
            simp only [Act.put, List.setIfInBounds_toArray, List.set_cons_zero, List.set_cons_succ]
            refine held_take 7 undef rfl (by kernel_rfl) (by kernel_rfl) (by kernel_rfl) (fun _ _ _ h => h) hHeld (Or.inr ⟨by rfl, rfl⟩) ?_
            simp only [Act.put, List.setIfInBounds_toArray, List.set_cons_zero, List.set_cons_succ]
            refine held_take 8 undef rfl (by kernel_rfl) (by kernel_rfl) (by kernel_rfl) (fun _ _ _ h => h) hHeld (Or.inr ⟨by rfl, rfl⟩) ?_
            simp only [Act.put, List.setIfInBounds_toArray, List.set_cons_zero, List.set_cons_succ]
            refine held_take 9 undef rfl (by kernel_rfl) (by kernel_rfl) (by kernel_rfl) (fun _ _ _ h => h) hHeld (Or.inr ⟨by rfl, rfl⟩) ?_
            simp only [Act.put, List.setIfInBounds_toArray, List.set_cons_zero, List.set_cons_succ]
            refine held_take 10 undef rfl (by kernel_rfl) (by kernel_rfl) (by kernel_rfl) (fun _ _ _ h => h) hHeld (Or.inr ⟨by rfl, rfl⟩) ?_
            simp only [Act.put, List.setIfInBounds_toArray, List.set_cons_zero, List.set_cons_succ]
            refine held_take 11 (.bool false) rfl (by kernel_rfl) (by kernel_rfl) (by kernel_rfl) (fun _ _ _ h => h) hHeld (Or.inl ⟨by rfl, fun w' hSw => by (try dsimp only at hSw); (try subst hSw); go_simp⟩) ?_
            simp only [Act.put, List.setIfInBounds_toArray, List.set_cons_zero, List.set_cons_succ]
            refine wpAnyH_done (by kernel_rfl) ?_ _
            clear hHeld
            have bB : Bx wr.drew q ⟨o0, o1, o2, o3, o4⟩ := Bx.kept (S := []) hB (Only.refl [] _).drew (by simp)
            have hB := hk.drew
            generalize wr.drew = wB at *
            clear hk
            replace hhd := hhd.out
            replace htl := htl.out
            go_wp2_with (at_builtin; first
              | (refine wpList_append_any opE_length (by decide) opE_one rfl (.tmp 60) (.tmp 63) 22 rfl 27 _ 20 Try.underlying22 info_op rfl _ 0 [] rfl (Mine.start opE 5 27 hB).own (tailA A c 0 5) c l1 (by rw [n1.out]; exact rfl) (h1.out.kept hB (by simp)) (by unfold maxLen; omega) (by omega) ?_
                 intro vv w6 h6 g6 a6
                 have g6' : wB.grownBy w6 none := g6
                 have k06 : Only [] wB w6 := (Only.refl [] wB).grown g6' (fun j hj => by cases hj)
                 have m1 : Hid (Mine opE 5 27 w w6 vv ([] ++ l1)) := Lib.hid ((Mine.start opE 5 27 hB).joined h6 g6 a6)
                 have h2' := h2.out.kept m1.out.only (by simp)
                 rw [List.nil_append] at m1
                 obtain ⟨y0, y1, y2, y3, y4⟩ := (bB.kept k06 (by simp)).cells
                 (try simp only at y0 y1 y2 y3 y4)
                 have bn : Hid (Bx (w6.alloc (.cells #[.int .u32 o0, .int .u32 o1, .int .u32 o2, .int .u32 o3, .int .u32 (o4 : Int)] 27)) w6.heap.size ⟨o0, o1, o2, o3, o4⟩) := Lib.hid (Bx.new w6 ⟨o0, o1, o2, o3, o4⟩)
                 have kn : Only [] w6 (w6.alloc (.cells #[.int .u32 o0, .int .u32 o1, .int .u32 o2, .int .u32 o3, .int .u32 (o4 : Int)] 27)) := (Only.refl [] w6).alloc _
                 clear h6 g6 g6' a6 hhd k06)
              | (refine wpList_append_any opE_length (by decide) opE_one rfl (.tmp 65) (.tmp 67) 22 rfl 27 _ 20 Try.underlying22 info_op rfl _ l1.length l1 rfl (m1.out.keep kn).own (some ⟨w6.heap.size, 0, none⟩) 1 [⟨o0, o1, o2, o3, o4⟩] rfl bn.out.els (by simp only [List.length_cons, List.length_nil]; unfold maxLen; omega) (by simp only [List.length_cons, List.length_nil]; omega) ?_
                 intro v2 w7 h7 g7 a7
                 have m2 : Hid (Mine opE 5 27 w w7 v2 (l1 ++ [⟨o0, o1, o2, o3, o4⟩])) := (m1.out.keep kn).joined h7 g7 a7
                 have n3 : (l1 ++ [(⟨o0, o1, o2, o3, o4⟩ : Opn)]).length = k + 1 := by simp only [List.length_append, List.length_cons, List.length_nil]; rw [n8.out]
                 have h2'' := h2.out.kept m2.out.only (by simp)
                 clear h7 g7 a7 m1 h2' bn kn y0 y1 y2 y3 y4)
              | (go_must (refine wpList_append_any opE_length (by decide) opE_one rfl (.tmp 69) (.tmp 72) 22 rfl 27 _ 20 Try.underlying22 info_op rfl _ _ _ rfl m2.out.own (tailA A c k 5) (c - k) l2 (by rw [n2.out]; exact rfl) h2'' (by rw [n3]; unfold maxLen; omega) (by rw [n3]; omega) ?_)
                 intro v3 w8 h8 g8 a8
                 have m3 : Hid (Mine opE 5 27 w w8 v3 ((l1 ++ [⟨o0, o1, o2, o3, o4⟩]) ++ l2)) := m2.out.joined h8 g8 a8
                 clear h8 g8 a8 m2 h2'' htl))
            have hr' := hR.out
            subst hr'
            go_ret2
            refine ⟨_, rfl, ?_⟩
            have := m3.out
            rwa [List.append_assoc] at this
end Go.Proofs.Ythclpefomhakdaa
