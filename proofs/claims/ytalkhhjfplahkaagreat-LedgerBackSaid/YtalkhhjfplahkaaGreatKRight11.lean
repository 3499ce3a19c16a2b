/- Whether a list may be: the program's. -/
import Derived.Test.YtalkhhjfplahkaaGreatKK
namespace Go.Proofs.YtalkhhjfplahkaaGreat
set_option maxRecDepth 100000
open Go.RowKit

theorem wrap_pred1 (m : Nat) (h : m ≤ 1048576) : IntKind.i64.wrap (((m + 1 : Nat) : Int) - 1) = (m : Int) := by simp only [IntKind.wrap, IntKind.bits, IntKind.signed]; simp; omega
theorem take_last1 {l : List Opn} {m : Nat} {y : Opn} (h : l[m]? = some y) : (l.take (m + 1)).getLast? = some y := by
  rw [get_snocs h, List.getLast?_concat]
set_option maxRecDepth 100000 in
set_option maxHeartbeats 8000000 in
theorem right_share (w : World) (A : Option Addr) (c : Nat) (l : List Opn) (hb : Els opE 5 w A l) (hl : l.length ≤ 9223372036854775807) (hc : l.length ≤ c) :
    Calls Tryz.prog 54 #[.slice A l.length c] w fun e w' => e = .returned (.bool (decide (RightO l))) ∧ Only [] w w' := by
  have hlI : (l.length : Int) ≤ 9223372036854775807 := by omega
  obtain ⟨R, hR⟩ : ∃ R, R = decide (RightO l) := ⟨_, rfl⟩
  rw [← hR]
  have hyes : RightO l → R = true := fun h => by rw [hR]; exact decide_eq_true h
  have hno : ¬ RightO l → R = false := fun h => by rw [hR]; exact decide_eq_false h
  replace hyes := Lib.hid hyes
  replace hno := Lib.hid hno
  clear hR
  go_enter Tryz.func54, Tryz.ntmps54
  go_wp2_with fail
  go_loopw [8] (fun i wr => ∃ n : Nat, n ≤ l.length ∧ i = .int .i64 n ∧ Hid (RightO (l.take n)) ∧ Only [] w wr) (fun i _ => l.length - (intOf i).toNat)
  case atStart => exact ⟨0, Nat.zero_le _, rfl, right_nil, Only.refl _ _⟩
  case round =>
    obtain ⟨n, hn, rfl, hI, hk⟩ := hrel
    by_cases hlt : n < l.length
    rotate_left
    · obtain rfl := hyes.out (by have := hI.out; rwa [List.take_of_length_le (by omega)] at this)
      go_wp2
      go_ret
      exact ⟨rfl, hk⟩
    have htk : (l.take n).length = n := by simp; omega
    have hn12 : n ≤ 12 := by have := hI.out.len; omega
    obtain ⟨g, o, rfl, hg, hat⟩ := hb.get hlt
    have hatk := hat.kept hk (by simp)
    have hx : l[n]? = some l[n] := List.getElem?_eq_getElem hlt
    have hnext : StepP (l.take n) l[n] → Hid (RightO (l.take (n + 1))) := fun h => (right_take_succ hx).2 ⟨hI.out, h⟩
    have hbad : ¬ StepP (l.take n) l[n] → R = false := fun h => hno.out (fun r => h ((right_take_succ hx).1 (r.take (n + 1))).2)
    have hcn := hc
    have hc := ops_at hatk hlt
    have hV := fun W => valid_any W l[n]
    have hrunh := run_head (P := Tryz.prog) 24 61 Tryz.underlying24 size_op' (some ⟨g, o, none⟩) l.length c n (n : Int) rfl (by omega)
    have hhd := hb.head (c := c) (m := n)
    have hF := fun W (k : Only [] w W) => full_anys W (tailA (some ⟨g, o, none⟩) c 0 5) c (l.take n) l[n].client (hhd.kept k (by simp)) (by omega)
    have hDn := fun (hv : validO l[n]) W (k : Only [] w W) => denied_any W (tailA (some ⟨g, o, none⟩) c 0 5) c (l.take n) l[n] hv hI.out.ok (hhd.kept k (by simp)) (by omega)
    generalize tailA (some ⟨g, o, none⟩) c 0 5 = HA at *
    generalize l[n] = x at *
    rw [htk] at hF hDn
    by_cases hv : validO x
    rotate_left
    · obtain rfl := hbad (fun h => hv h.ok)
      rw [decide_eq_false hv] at hV
      obtain ⟨x0, x1, x2, x3, x4⟩ := x
      have hka : Only [] w (wr.alloc (.cells #[.int .u32 x0, .int .u32 x1, .int .u32 x2, .int .u32 x3, .int .u32 (x4 : Int)] 61)) := hk.alloc _
      have bx := Bxs.new wr ⟨x0, x1, x2, x3, x4⟩
      unfold opV at hV hDn
      simp only at hc hV hF hDn bx
      obtain ⟨c0, c1, c2, c3, c4⟩ := hc
      replace hV := Lib.hid hV
      replace hF := Lib.hid hF
      replace hDn := Lib.hid hDn
      replace hx := Lib.hid hx
      replace hbad := Lib.hid hbad
      replace hnext := Lib.hid hnext
      go_wp2_with fail
      refine (hV.out _).mono ?_; rintro e w3 ⟨rfl, k3⟩
      have hk3 := hka.trans k3
      have b3 := Bxs.kept bx k3 (by simp)
      obtain ⟨q0, q1, q2, q3, q4⟩ := b3.cells
      simp only at q0 q1 q2 q3 q4
      clear bx k3 hka
      go_wp2
      go_ret
      exact ⟨rfl, hk3⟩
    rw [decide_eq_true hv] at hV
    have hDn := hDn hv
    by_cases hf : 12 ≤ n ∨ 4 ≤ mineN (l.take n) x.client
    · obtain rfl := hbad (fun h => by have h1 := h.len; have h2 := h.few; rw [htk] at h1; omega)
      rw [decide_eq_true hf] at hF
      clear hf
      obtain ⟨x0, x1, x2, x3, x4⟩ := x
      have hka : Only [] w (wr.alloc (.cells #[.int .u32 x0, .int .u32 x1, .int .u32 x2, .int .u32 x3, .int .u32 (x4 : Int)] 61)) := hk.alloc _
      have bx := Bxs.new wr ⟨x0, x1, x2, x3, x4⟩
      unfold opV at hV hDn
      simp only at hc hV hF hDn bx
      obtain ⟨c0, c1, c2, c3, c4⟩ := hc
      replace hV := Lib.hid hV
      replace hF := Lib.hid hF
      replace hDn := Lib.hid hDn
      replace hx := Lib.hid hx
      replace hbad := Lib.hid hbad
      replace hnext := Lib.hid hnext
      go_wp2_with fail
      refine (hV.out _).mono ?_; rintro e w3 ⟨rfl, k3⟩
      have hk3 := hka.trans k3
      have b3 := Bxs.kept bx k3 (by simp)
      obtain ⟨q0, q1, q2, q3, q4⟩ := b3.cells
      simp only at q0 q1 q2 q3 q4
      clear bx k3 hka
      go_wp2_with fail
      refine (hF.out _ hk3).mono ?_; rintro e w4 ⟨rfl, k4⟩
      have hk4 := hk3.trans k4
      have b4 := Bxs.kept b3 k4 (by simp)
      clear q0 q1 q2 q3 q4 b3 k4 hk3
      obtain ⟨q0, q1, q2, q3, q4⟩ := b4.cells
      simp only at q0 q1 q2 q3 q4
      go_wp2
      go_ret
      exact ⟨rfl, hk4⟩
    rw [decide_eq_false hf] at hF
    by_cases hd : ∃ y ∈ l.take n, clashO x y
    · obtain rfl := hbad (fun h => by obtain ⟨y, hy, hc⟩ := hd; exact h.calm y hy hc)
      rw [decide_eq_true hd] at hDn
      clear hf hd
      obtain ⟨x0, x1, x2, x3, x4⟩ := x
      have hka : Only [] w (wr.alloc (.cells #[.int .u32 x0, .int .u32 x1, .int .u32 x2, .int .u32 x3, .int .u32 (x4 : Int)] 61)) := hk.alloc _
      have bx := Bxs.new wr ⟨x0, x1, x2, x3, x4⟩
      unfold opV at hV hDn
      simp only at hc hV hF hDn bx
      obtain ⟨c0, c1, c2, c3, c4⟩ := hc
      replace hV := Lib.hid hV
      replace hF := Lib.hid hF
      replace hDn := Lib.hid hDn
      replace hx := Lib.hid hx
      replace hbad := Lib.hid hbad
      replace hnext := Lib.hid hnext
      go_wp2_with fail
      refine (hV.out _).mono ?_; rintro e w3 ⟨rfl, k3⟩
      have hk3 := hka.trans k3
      have b3 := Bxs.kept bx k3 (by simp)
      obtain ⟨q0, q1, q2, q3, q4⟩ := b3.cells
      simp only at q0 q1 q2 q3 q4
      clear bx k3 hka
      go_wp2_with fail
      refine (hF.out _ hk3).mono ?_; rintro e w4 ⟨rfl, k4⟩
      have hk4 := hk3.trans k4
      have b4 := Bxs.kept b3 k4 (by simp)
      clear q0 q1 q2 q3 q4 b3 k4 hk3
      obtain ⟨q0, q1, q2, q3, q4⟩ := b4.cells
      simp only at q0 q1 q2 q3 q4
      go_wp2_with fail
      refine (hDn.out _ hk4).mono ?_; rintro e w5 ⟨rfl, k5⟩
      have hk5 := hk4.trans k5
      have b5 := Bxs.kept b4 k5 (by simp)
      clear q0 q1 q2 q3 q4 b4 k5 hk4
      go_wp2
      go_ret
      exact ⟨rfl, hk5⟩
    rw [decide_eq_false hd] at hDn
    have hcalm : ∀ y ∈ l.take n, ¬ clashO x y := fun y hy hc => hd ⟨y, hy, hc⟩
    have hfew : (l.take n).length < 12 ∧ mineN (l.take n) x.client < 4 := by rw [htk]; omega
    clear hd hf
    by_cases hn0 : n = 0
    · have hnx := hnext ⟨hv, hfew.1, hfew.2, hcalm, fun y hy => by rw [hn0] at hy; simp at hy⟩
      replace hn0 := Lib.hid hn0
      clear hcalm hfew
      obtain ⟨x0, x1, x2, x3, x4⟩ := x
      have hka : Only [] w (wr.alloc (.cells #[.int .u32 x0, .int .u32 x1, .int .u32 x2, .int .u32 x3, .int .u32 (x4 : Int)] 61)) := hk.alloc _
      have bx := Bxs.new wr ⟨x0, x1, x2, x3, x4⟩
      unfold opV at hV hDn
      simp only at hc hV hF hDn bx
      obtain ⟨c0, c1, c2, c3, c4⟩ := hc
      replace hV := Lib.hid hV
      replace hF := Lib.hid hF
      replace hDn := Lib.hid hDn
      replace hx := Lib.hid hx
      replace hbad := Lib.hid hbad
      replace hnext := Lib.hid hnext
      go_wp2_with fail
      refine (hV.out _).mono ?_; rintro e w3 ⟨rfl, k3⟩
      have hk3 := hka.trans k3
      have b3 := Bxs.kept bx k3 (by simp)
      obtain ⟨q0, q1, q2, q3, q4⟩ := b3.cells
      simp only at q0 q1 q2 q3 q4
      clear bx k3 hka
      go_wp2_with fail
      refine (hF.out _ hk3).mono ?_; rintro e w4 ⟨rfl, k4⟩
      have hk4 := hk3.trans k4
      have b4 := Bxs.kept b3 k4 (by simp)
      clear q0 q1 q2 q3 q4 b3 k4 hk3
      obtain ⟨q0, q1, q2, q3, q4⟩ := b4.cells
      simp only at q0 q1 q2 q3 q4
      go_wp2_with fail
      refine (hDn.out _ hk4).mono ?_; rintro e w5 ⟨rfl, k5⟩
      have hk5 := hk4.trans k5
      have b5 := Bxs.kept b4 k5 (by simp)
      clear q0 q1 q2 q3 q4 b4 k5 hk4
      go_wp2_with fail
      clear b5
      refine wp_region_held_drew (S := fun w' => True) (by kernel_rfl) trivial (fun hHeld => ?_)
      refine held_take 0 (.int .i64 n) rfl (by kernel_rfl) (by kernel_rfl) (by kernel_rfl) (fun _ _ _ h => h) hHeld (Or.inl ⟨by rfl, fun w' hSw => by (try dsimp only at hSw); (try subst hSw); go_simp⟩) ?_
      simp only [Act.put, List.setIfInBounds_toArray, List.set_cons_zero, List.set_cons_succ]
      refine held_take 1 (.bool false) rfl (by kernel_rfl) (by kernel_rfl) (by kernel_rfl) (fun _ _ _ h => h) hHeld (Or.inl ⟨by rfl, fun w' hSw => by go_simp; exact hn0.out⟩) ?_
      simp only [Act.put, List.setIfInBounds_toArray, List.set_cons_zero, List.set_cons_succ]
      refine held_take 2 (.bool false) rfl (by kernel_rfl) (by kernel_rfl) (by kernel_rfl) (fun _ _ _ h => h) hHeld (Or.inl ⟨by rfl, fun w' hSw => by (try dsimp only at hSw); (try subst hSw); go_simp⟩) ?_
      simp only [Act.put, List.setIfInBounds_toArray, List.set_cons_zero, List.set_cons_succ]
      refine held_take 3 undef rfl (by kernel_rfl) (by kernel_rfl) (by kernel_rfl) (fun _ _ _ h => h) hHeld (Or.inr ⟨by rfl, rfl⟩) ?_
      simp only [Act.put, List.setIfInBounds_toArray, List.set_cons_zero, List.set_cons_succ]
      refine held_take 4 undef rfl (by kernel_rfl) (by kernel_rfl) (by kernel_rfl) (fun _ _ _ h => h) hHeld (Or.inr ⟨by rfl, rfl⟩) ?_
      simp only [Act.put, List.setIfInBounds_toArray, List.set_cons_zero, List.set_cons_succ]
      refine held_take 5 undef rfl (by kernel_rfl) (by kernel_rfl) (by kernel_rfl) (fun _ _ _ h => h) hHeld (Or.inr ⟨by rfl, rfl⟩) ?_
      simp only [Act.put, List.setIfInBounds_toArray, List.set_cons_zero, List.set_cons_succ]
      refine held_take 6 undef rfl (by kernel_rfl) (by kernel_rfl) (by kernel_rfl) (fun _ _ _ h => h) hHeld (Or.inr ⟨by rfl, rfl⟩) ?_
      simp only [Act.put, List.setIfInBounds_toArray, List.set_cons_zero, List.set_cons_succ]
      refine held_take 7 undef rfl (by kernel_rfl) (by kernel_rfl) (by kernel_rfl) (fun _ _ _ h => h) hHeld (Or.inr ⟨by rfl, rfl⟩) ?_
      simp only [Act.put, List.setIfInBounds_toArray, List.set_cons_zero, List.set_cons_succ]
      refine held_take 8 undef rfl (by kernel_rfl) (by kernel_rfl) (by kernel_rfl) (fun _ _ _ h => h) hHeld (Or.inr ⟨by rfl, rfl⟩) ?_
      simp only [Act.put, List.setIfInBounds_toArray, List.set_cons_zero, List.set_cons_succ]
      refine held_take 9 undef rfl (by kernel_rfl) (by kernel_rfl) (by kernel_rfl) (fun _ _ _ h => h) hHeld (Or.inr ⟨by rfl, rfl⟩) ?_
      simp only [Act.put, List.setIfInBounds_toArray, List.set_cons_zero, List.set_cons_succ]
      refine held_take 10 undef rfl (by kernel_rfl) (by kernel_rfl) (by kernel_rfl) (fun _ _ _ h => h) hHeld (Or.inr ⟨by rfl, rfl⟩) ?_
      simp only [Act.put, List.setIfInBounds_toArray, List.set_cons_zero, List.set_cons_succ]
      refine held_take 11 (.bool false) rfl (by kernel_rfl) (by kernel_rfl) (by kernel_rfl) (fun _ _ _ h => h) hHeld (Or.inl ⟨by rfl, fun w' hSw => by (try dsimp only at hSw); (try subst hSw); go_simp⟩) ?_
      simp only [Act.put, List.setIfInBounds_toArray, List.set_cons_zero, List.set_cons_succ]
      refine wpAnyH_done (by kernel_rfl) ?_ _
      clear hHeld
      go_wp2
      go_roundw
      case rel => exact ⟨n + 1, by omega, by go_num, hnx, hk5.drew⟩
      case measure => simp [intOf]; omega
    · obtain ⟨m, hm⟩ : ∃ m, n = m + 1 := ⟨n - 1, by omega⟩
      have hml : m < l.length := by omega
      have hy : l[m]? = some l[m] := List.getElem?_eq_getElem hml
      have hcy := fun W (k' : Only [] wr W) => ops_at (hatk.kept k' (by simp)) hml
      have hOr := fun W => order_any W l[m] x
      have hw : IntKind.i64.wrap ((n : Int) - 1) = (m : Int) := by rw [hm]; exact wrap_pred1 m (by omega)
      have hrl := ordI_lt l[m] x
      generalize l[m] = y at *
      generalize ordI y x = r at *
      have hnpos : 0 < n := by omega
      replace hn0 := Lib.hid hn0
      by_cases hless : keyLt y x
      · have hnx := hnext ⟨hv, hfew.1, hfew.2, hcalm, fun z hz => by rw [hm, take_last1 hy] at hz; injection hz with hz; subst hz; exact hless⟩
        have dr : decide (0 ≤ r) = false := decide_eq_false (by have := hrl.2 hless; omega)
        have dr' : ¬ 0 ≤ r := by have := hrl.2 hless; omega
        clear hcalm hfew hless hrl
        obtain ⟨x0, x1, x2, x3, x4⟩ := x
        have hka : Only [] w (wr.alloc (.cells #[.int .u32 x0, .int .u32 x1, .int .u32 x2, .int .u32 x3, .int .u32 (x4 : Int)] 61)) := hk.alloc _
        have bx := Bxs.new wr ⟨x0, x1, x2, x3, x4⟩
        unfold opV at hV hDn
        simp only at hc hV hF hDn bx
        obtain ⟨c0, c1, c2, c3, c4⟩ := hc
        replace hV := Lib.hid hV
        replace hF := Lib.hid hF
        replace hDn := Lib.hid hDn
        replace hx := Lib.hid hx
        replace hbad := Lib.hid hbad
        replace hnext := Lib.hid hnext
        obtain ⟨y0, y1, y2, y3, y4⟩ := y
        unfold opV at hOr
        simp only at hOr hcy
        replace hOr := Lib.hid hOr
        replace hy := Lib.hid hy
        replace hm := Lib.hid hm
        go_wp2_with fail
        refine (hV.out _).mono ?_; rintro e w3 ⟨rfl, k3⟩
        have hk3 := hka.trans k3
        have b3 := Bxs.kept bx k3 (by simp)
        obtain ⟨q0, q1, q2, q3, q4⟩ := b3.cells
        simp only at q0 q1 q2 q3 q4
        have k13 : Only [] wr w3 := ((Only.refl [] wr).alloc _).trans k3
        clear bx k3 hka
        go_wp2_with fail
        refine (hF.out _ hk3).mono ?_; rintro e w4 ⟨rfl, k4⟩
        have hk4 := hk3.trans k4
        have b4 := Bxs.kept b3 k4 (by simp)
        have k14 := k13.trans k4
        clear q0 q1 q2 q3 q4 b3 k4 hk3 k13
        obtain ⟨q0, q1, q2, q3, q4⟩ := b4.cells
        simp only at q0 q1 q2 q3 q4
        go_wp2_with fail
        refine (hDn.out _ hk4).mono ?_; rintro e w5 ⟨rfl, k5⟩
        have hk5 := hk4.trans k5
        have b5 := Bxs.kept b4 k5 (by simp)
        have k15 := k14.trans k5
        clear q0 q1 q2 q3 q4 b4 k5 hk4 k14
        have KP : Hid (∀ w', Only [] w5 w' → w'.cell? ⟨g, o + m * 5, none⟩ = some (.int .u32 y0) ∧ w'.cell? ⟨g, o + m * 5 + 1, none⟩ = some (.int .u32 y1) ∧ w'.cell? ⟨g, o + m * 5 + 2, none⟩ = some (.int .u32 y2) ∧ w'.cell? ⟨g, o + m * 5 + 3, none⟩ = some (.int .u32 y3) ∧ w'.cell? ⟨g, o + m * 5 + 4, none⟩ = some (.int .u32 (y4 : Int)) ∧ w'.cell? ⟨wr.heap.size, 0, none⟩ = some (.int .u32 x0) ∧ w'.cell? ⟨wr.heap.size, 1, none⟩ = some (.int .u32 x1) ∧ w'.cell? ⟨wr.heap.size, 2, none⟩ = some (.int .u32 x2) ∧ w'.cell? ⟨wr.heap.size, 3, none⟩ = some (.int .u32 x3) ∧ w'.cell? ⟨wr.heap.size, 4, none⟩ = some (.int .u32 (x4 : Int))) := fun w' kk => by
          obtain ⟨a0, a1, a2, a3, a4⟩ := hcy w' ((k15).trans kk)
          exact ⟨a0, a1, a2, a3, a4, (Bxs.kept b5 kk (by simp)).cells⟩
        clear hcy b5
        go_wp2_with fail
        generalize wr.heap.size = q at *
        refine wp_region_held_drew (S := fun w' => w'.cell? ⟨g, o + m * 5, none⟩ = some (.int .u32 y0) ∧ w'.cell? ⟨g, o + m * 5 + 1, none⟩ = some (.int .u32 y1) ∧ w'.cell? ⟨g, o + m * 5 + 2, none⟩ = some (.int .u32 y2) ∧ w'.cell? ⟨g, o + m * 5 + 3, none⟩ = some (.int .u32 y3) ∧ w'.cell? ⟨g, o + m * 5 + 4, none⟩ = some (.int .u32 (y4 : Int)) ∧ w'.cell? ⟨q, 0, none⟩ = some (.int .u32 x0) ∧ w'.cell? ⟨q, 1, none⟩ = some (.int .u32 x1) ∧ w'.cell? ⟨q, 2, none⟩ = some (.int .u32 x2) ∧ w'.cell? ⟨q, 3, none⟩ = some (.int .u32 x3) ∧ w'.cell? ⟨q, 4, none⟩ = some (.int .u32 (x4 : Int))) (by kernel_rfl) (KP.out _ (Only.refl _ _).drew) (fun hHeld => ?_)
        refine held_take 0 (.int .i64 n) rfl (by kernel_rfl) (by kernel_rfl) (by kernel_rfl) (fun _ _ _ h => h) hHeld (Or.inl ⟨by rfl, fun w' hSw => by (try dsimp only at hSw); (try subst hSw); go_simp⟩) ?_
        simp only [Act.put, List.setIfInBounds_toArray, List.set_cons_zero, List.set_cons_succ]
        refine held_take 1 (.bool true) rfl (by kernel_rfl) (by kernel_rfl) (by kernel_rfl) (fun _ _ _ h => h) hHeld (Or.inl ⟨by rfl, fun w' hSw => by (try dsimp only at hSw); (try subst hSw); go_simp⟩) ?_
        simp only [Act.put, List.setIfInBounds_toArray, List.set_cons_zero, List.set_cons_succ]
        refine held_take 2 (.bool true) rfl (by kernel_rfl) (by kernel_rfl) (by kernel_rfl) (fun _ _ _ h => h) hHeld (Or.inl ⟨by rfl, fun w' hSw => by (try dsimp only at hSw); (try subst hSw); go_simp⟩) ?_
        simp only [Act.put, List.setIfInBounds_toArray, List.set_cons_zero, List.set_cons_succ]
        refine held_take 3 (.slice (some ⟨g, o, none⟩) l.length c) rfl (by kernel_rfl) (by kernel_rfl) (by kernel_rfl) (fun _ _ _ h => h) hHeld (Or.inl ⟨by rfl, fun w' hSw => by (try dsimp only at hSw); (try subst hSw); go_simp⟩) ?_
        simp only [Act.put, List.setIfInBounds_toArray, List.set_cons_zero, List.set_cons_succ]
        refine held_take 4 (.int .i64 n) rfl (by kernel_rfl) (by kernel_rfl) (by kernel_rfl) (fun _ _ _ h => h) hHeld (Or.inl ⟨by rfl, fun w' hSw => by (try dsimp only at hSw); (try subst hSw); go_simp⟩) ?_
        simp only [Act.put, List.setIfInBounds_toArray, List.set_cons_zero, List.set_cons_succ]
        refine held_take 5 (.int .i64 m) rfl (by kernel_rfl) (by kernel_rfl) (by kernel_rfl) (fun _ _ _ h => h) hHeld (Or.inl ⟨by rfl, fun w' hSw => by (try dsimp only at hSw); (try subst hSw); go_simp⟩) ?_
        simp only [Act.put, List.setIfInBounds_toArray, List.set_cons_zero, List.set_cons_succ]
        refine held_take 6 (.pointer (some ⟨g, o + m * 5, none⟩)) rfl (by kernel_rfl) (by kernel_rfl) (by kernel_rfl) (fun _ _ _ h => h) hHeld (Or.inl ⟨by rfl, fun w' hSw => by (try dsimp only at hSw); (try subst hSw); go_simp⟩) ?_
        simp only [Act.put, List.setIfInBounds_toArray, List.set_cons_zero, List.set_cons_succ]
        refine held_take 7 (.agg #[.int .u32 y0, .int .u32 y1, .int .u32 y2, .int .u32 y3, .int .u32 (y4 : Int)]) rfl (by kernel_rfl) (by kernel_rfl) (by kernel_rfl) (fun _ _ _ h => h) hHeld (Or.inl ⟨by rfl, fun w' hSw => by (try dsimp only at hSw); (try subst hSw); go_simp⟩) ?_
        simp only [Act.put, List.setIfInBounds_toArray, List.set_cons_zero, List.set_cons_succ]
        refine held_take 8 (.agg #[.int .u32 x0, .int .u32 x1, .int .u32 x2, .int .u32 x3, .int .u32 (x4 : Int)]) rfl (by kernel_rfl) (by kernel_rfl) (by kernel_rfl) (fun _ _ _ h => h) hHeld (Or.inl ⟨by rfl, fun w' hSw => by (try dsimp only at hSw); (try subst hSw); go_simp⟩) ?_
        simp only [Act.put, List.setIfInBounds_toArray, List.set_cons_zero, List.set_cons_succ]
        refine held_step 9 rfl (by kernel_rfl) (fun K hK => ?_)
        go_simp
        refine (hOr.out _).mono ?_; rintro e w6 ⟨rfl, k6⟩; replace k6 := k6.undrew
        go_wp2_with fail
        refine hK.out _ _ (KP.out _ k6) (fun hHeld => ?_)
        clear hK K
        refine held_take 10 (.bool false) rfl (by kernel_rfl) (by kernel_rfl) (by kernel_rfl) (fun _ _ _ h => h) hHeld (Or.inl ⟨by rfl, fun w' hSw => by (try dsimp only at hSw); (try subst hSw); go_simp⟩) ?_
        simp only [Act.put, List.setIfInBounds_toArray, List.set_cons_zero, List.set_cons_succ]
        refine held_take 11 (.bool false) rfl (by kernel_rfl) (by kernel_rfl) (by kernel_rfl) (fun _ _ _ h => h) hHeld (Or.inl ⟨by rfl, fun w' hSw => by (try dsimp only at hSw); (try subst hSw); go_simp⟩) ?_
        simp only [Act.put, List.setIfInBounds_toArray, List.set_cons_zero, List.set_cons_succ]
        refine wpAnyH_done (by kernel_rfl) ?_ _
        clear hHeld
        go_wp2_with fail
        go_roundw
        case rel => exact ⟨n + 1, by omega, by go_num, hnx, hk5.trans k6⟩
        case measure => simp [intOf]; omega
      · obtain rfl := hbad (fun h => hless (h.last y (by rw [hm, take_last1 hy])))
        have dr : decide (0 ≤ r) = true := decide_eq_true (by have e0 : ¬ r < 0 := fun e => hless (hrl.1 e); omega)
        have dr' : 0 ≤ r := by have e0 : ¬ r < 0 := fun e => hless (hrl.1 e); omega
        clear hcalm hfew hless hrl
        obtain ⟨x0, x1, x2, x3, x4⟩ := x
        have hka : Only [] w (wr.alloc (.cells #[.int .u32 x0, .int .u32 x1, .int .u32 x2, .int .u32 x3, .int .u32 (x4 : Int)] 61)) := hk.alloc _
        have bx := Bxs.new wr ⟨x0, x1, x2, x3, x4⟩
        unfold opV at hV hDn
        simp only at hc hV hF hDn bx
        obtain ⟨c0, c1, c2, c3, c4⟩ := hc
        replace hV := Lib.hid hV
        replace hF := Lib.hid hF
        replace hDn := Lib.hid hDn
        replace hx := Lib.hid hx
        replace hbad := Lib.hid hbad
        replace hnext := Lib.hid hnext
        obtain ⟨y0, y1, y2, y3, y4⟩ := y
        unfold opV at hOr
        simp only at hOr hcy
        replace hOr := Lib.hid hOr
        replace hy := Lib.hid hy
        replace hm := Lib.hid hm
        go_wp2_with fail
        refine (hV.out _).mono ?_; rintro e w3 ⟨rfl, k3⟩
        have hk3 := hka.trans k3
        have b3 := Bxs.kept bx k3 (by simp)
        obtain ⟨q0, q1, q2, q3, q4⟩ := b3.cells
        simp only at q0 q1 q2 q3 q4
        have k13 : Only [] wr w3 := ((Only.refl [] wr).alloc _).trans k3
        clear bx k3 hka
        go_wp2_with fail
        refine (hF.out _ hk3).mono ?_; rintro e w4 ⟨rfl, k4⟩
        have hk4 := hk3.trans k4
        have b4 := Bxs.kept b3 k4 (by simp)
        have k14 := k13.trans k4
        clear q0 q1 q2 q3 q4 b3 k4 hk3 k13
        obtain ⟨q0, q1, q2, q3, q4⟩ := b4.cells
        simp only at q0 q1 q2 q3 q4
        go_wp2_with fail
        refine (hDn.out _ hk4).mono ?_; rintro e w5 ⟨rfl, k5⟩
        have hk5 := hk4.trans k5
        have b5 := Bxs.kept b4 k5 (by simp)
        have k15 := k14.trans k5
        clear q0 q1 q2 q3 q4 b4 k5 hk4 k14
        have KP : Hid (∀ w', Only [] w5 w' → w'.cell? ⟨g, o + m * 5, none⟩ = some (.int .u32 y0) ∧ w'.cell? ⟨g, o + m * 5 + 1, none⟩ = some (.int .u32 y1) ∧ w'.cell? ⟨g, o + m * 5 + 2, none⟩ = some (.int .u32 y2) ∧ w'.cell? ⟨g, o + m * 5 + 3, none⟩ = some (.int .u32 y3) ∧ w'.cell? ⟨g, o + m * 5 + 4, none⟩ = some (.int .u32 (y4 : Int)) ∧ w'.cell? ⟨wr.heap.size, 0, none⟩ = some (.int .u32 x0) ∧ w'.cell? ⟨wr.heap.size, 1, none⟩ = some (.int .u32 x1) ∧ w'.cell? ⟨wr.heap.size, 2, none⟩ = some (.int .u32 x2) ∧ w'.cell? ⟨wr.heap.size, 3, none⟩ = some (.int .u32 x3) ∧ w'.cell? ⟨wr.heap.size, 4, none⟩ = some (.int .u32 (x4 : Int))) := fun w' kk => by
          obtain ⟨a0, a1, a2, a3, a4⟩ := hcy w' ((k15).trans kk)
          exact ⟨a0, a1, a2, a3, a4, (Bxs.kept b5 kk (by simp)).cells⟩
        clear hcy b5
        go_wp2_with fail
        generalize wr.heap.size = q at *
        refine wp_region_held_drew (S := fun w' => w'.cell? ⟨g, o + m * 5, none⟩ = some (.int .u32 y0) ∧ w'.cell? ⟨g, o + m * 5 + 1, none⟩ = some (.int .u32 y1) ∧ w'.cell? ⟨g, o + m * 5 + 2, none⟩ = some (.int .u32 y2) ∧ w'.cell? ⟨g, o + m * 5 + 3, none⟩ = some (.int .u32 y3) ∧ w'.cell? ⟨g, o + m * 5 + 4, none⟩ = some (.int .u32 (y4 : Int)) ∧ w'.cell? ⟨q, 0, none⟩ = some (.int .u32 x0) ∧ w'.cell? ⟨q, 1, none⟩ = some (.int .u32 x1) ∧ w'.cell? ⟨q, 2, none⟩ = some (.int .u32 x2) ∧ w'.cell? ⟨q, 3, none⟩ = some (.int .u32 x3) ∧ w'.cell? ⟨q, 4, none⟩ = some (.int .u32 (x4 : Int))) (by kernel_rfl) (KP.out _ (Only.refl _ _).drew) (fun hHeld => ?_)
        refine held_take 0 (.int .i64 n) rfl (by kernel_rfl) (by kernel_rfl) (by kernel_rfl) (fun _ _ _ h => h) hHeld (Or.inl ⟨by rfl, fun w' hSw => by (try dsimp only at hSw); (try subst hSw); go_simp⟩) ?_
        simp only [Act.put, List.setIfInBounds_toArray, List.set_cons_zero, List.set_cons_succ]
        refine held_take 1 (.bool true) rfl (by kernel_rfl) (by kernel_rfl) (by kernel_rfl) (fun _ _ _ h => h) hHeld (Or.inl ⟨by rfl, fun w' hSw => by (try dsimp only at hSw); (try subst hSw); go_simp⟩) ?_
        simp only [Act.put, List.setIfInBounds_toArray, List.set_cons_zero, List.set_cons_succ]
        refine held_take 2 (.bool true) rfl (by kernel_rfl) (by kernel_rfl) (by kernel_rfl) (fun _ _ _ h => h) hHeld (Or.inl ⟨by rfl, fun w' hSw => by (try dsimp only at hSw); (try subst hSw); go_simp⟩) ?_
        simp only [Act.put, List.setIfInBounds_toArray, List.set_cons_zero, List.set_cons_succ]
        refine held_take 3 (.slice (some ⟨g, o, none⟩) l.length c) rfl (by kernel_rfl) (by kernel_rfl) (by kernel_rfl) (fun _ _ _ h => h) hHeld (Or.inl ⟨by rfl, fun w' hSw => by (try dsimp only at hSw); (try subst hSw); go_simp⟩) ?_
        simp only [Act.put, List.setIfInBounds_toArray, List.set_cons_zero, List.set_cons_succ]
        refine held_take 4 (.int .i64 n) rfl (by kernel_rfl) (by kernel_rfl) (by kernel_rfl) (fun _ _ _ h => h) hHeld (Or.inl ⟨by rfl, fun w' hSw => by (try dsimp only at hSw); (try subst hSw); go_simp⟩) ?_
        simp only [Act.put, List.setIfInBounds_toArray, List.set_cons_zero, List.set_cons_succ]
        refine held_take 5 (.int .i64 m) rfl (by kernel_rfl) (by kernel_rfl) (by kernel_rfl) (fun _ _ _ h => h) hHeld (Or.inl ⟨by rfl, fun w' hSw => by (try dsimp only at hSw); (try subst hSw); go_simp⟩) ?_
        simp only [Act.put, List.setIfInBounds_toArray, List.set_cons_zero, List.set_cons_succ]
        refine held_take 6 (.pointer (some ⟨g, o + m * 5, none⟩)) rfl (by kernel_rfl) (by kernel_rfl) (by kernel_rfl) (fun _ _ _ h => h) hHeld (Or.inl ⟨by rfl, fun w' hSw => by (try dsimp only at hSw); (try subst hSw); go_simp⟩) ?_
        simp only [Act.put, List.setIfInBounds_toArray, List.set_cons_zero, List.set_cons_succ]
        refine held_take 7 (.agg #[.int .u32 y0, .int .u32 y1, .int .u32 y2, .int .u32 y3, .int .u32 (y4 : Int)]) rfl (by kernel_rfl) (by kernel_rfl) (by kernel_rfl) (fun _ _ _ h => h) hHeld (Or.inl ⟨by rfl, fun w' hSw => by (try dsimp only at hSw); (try subst hSw); go_simp⟩) ?_
        simp only [Act.put, List.setIfInBounds_toArray, List.set_cons_zero, List.set_cons_succ]
        refine held_take 8 (.agg #[.int .u32 x0, .int .u32 x1, .int .u32 x2, .int .u32 x3, .int .u32 (x4 : Int)]) rfl (by kernel_rfl) (by kernel_rfl) (by kernel_rfl) (fun _ _ _ h => h) hHeld (Or.inl ⟨by rfl, fun w' hSw => by (try dsimp only at hSw); (try subst hSw); go_simp⟩) ?_
        simp only [Act.put, List.setIfInBounds_toArray, List.set_cons_zero, List.set_cons_succ]
        refine held_step 9 rfl (by kernel_rfl) (fun K hK => ?_)
        go_simp
        refine (hOr.out _).mono ?_; rintro e w6 ⟨rfl, k6⟩; replace k6 := k6.undrew
        go_wp2_with fail
        refine hK.out _ _ (KP.out _ k6) (fun hHeld => ?_)
        clear hK K
        refine held_take 10 (.bool true) rfl (by kernel_rfl) (by kernel_rfl) (by kernel_rfl) (fun _ _ _ h => h) hHeld (Or.inl ⟨by rfl, fun w' hSw => by (try dsimp only at hSw); (try subst hSw); go_simp⟩) ?_
        simp only [Act.put, List.setIfInBounds_toArray, List.set_cons_zero, List.set_cons_succ]
        refine held_take 11 (.bool true) rfl (by kernel_rfl) (by kernel_rfl) (by kernel_rfl) (fun _ _ _ h => h) hHeld (Or.inl ⟨by rfl, fun w' hSw => by (try dsimp only at hSw); (try subst hSw); go_simp⟩) ?_
        simp only [Act.put, List.setIfInBounds_toArray, List.set_cons_zero, List.set_cons_succ]
        refine wpAnyH_done (by kernel_rfl) ?_ _
        clear hHeld
        go_wp2
        go_ret
        exact ⟨rfl, hk5.trans k6⟩
end Go.Proofs.YtalkhhjfplahkaaGreat
