/- The other clients whose holds conflict: the program's Others, the document's. -/
import Derived.Test.YtnmmdnecojgccaaRg12
import Derived.Test.YtnmmdnecojgccaaJoin12
namespace Go.Proofs.Ytnmmdnecojgccaa
open Go.RowKit
set_option linter.unusedVariables false

def nuE (x : Int) : List Value := [.int .u32 x]
theorem nuE_length (x : Int) : (nuE x).length = 1 := rfl
theorem nuE_one (x : Int) : ∀ v ∈ nuE x, v.oneCell' = true := by
  intro v hv
  simp [nuE] at hv
  subst hv
  rfl
theorem info_nu : (Try.prog.info? 22).map (fun i => (i.zero, i.size, i.bytes)) = some (some (.int .u32 0), 1, 4) := by kernel_rfl
theorem nus_at {w : World} {g o : Nat} {l : List Int} (h : ElsAt nuE 1 w g o l) {i : Nat} (hi : i < l.length) : w.cell? ⟨g, o + i, none⟩ = some (.int .u32 l[i]) := by simpa using h i hi 0 _ rfl
/-- What is answered: a list of numbers of the call's own. -/
def NuAns (w w' : World) (e : Ending) (l : List Int) : Prop := ∃ v, e = .returned v ∧ Mine nuE 1 22 w w' v l

set_option maxRecDepth 100000 in
set_option maxHeartbeats 4000000 in
theorem others_any (w : World) (L : Lk) (A : Option Addr) (c : Nat) (cl m : Int) (hb : Els holE 2 w A L.hs) (hl : L.hs.length ≤ 9223372036854775807) :
    Calls Try.prog 13 #[lkV L (.slice A L.hs.length c), .int .u32 cl, .int .u32 m] w fun e w' => NuAns w w' e (othL L cl m) := by
  have hR := fun W (k : Only [] w W) => right_any W L A c (hb.kept k (by simp)) hl
  have hlen : RightP L → L.hs.length ≤ 4 := fun h => h.len
  unfold othL
  by_cases hr : RightP L
  rotate_left
  · rw [if_neg hr]
    rw [decide_eq_false hr] at hR
    obtain ⟨f, ep, u, ct, fe, go, l⟩ := L
    have k1 := (Only.refl [] w).alloc (.cells #[.int .u32 f, .int .u32 ep, .int .u32 u, .int .u32 ct, .bool fe, .bool go, .slice A l.length c] 25)
    simp only [lkV] at hR ⊢
    replace hR := Lib.hid hR
    replace hr := Lib.hid hr
    replace hlen := Lib.hid hlen
    go_enter Try.func13, Try.ntmps13
    go_wp2_with fail
    refine (hR.out _ k1).mono ?_; rintro e w1 ⟨rfl, k2⟩
    go_wp2
    go_ret
    exact ⟨_, rfl, Mine.start _ _ _ (k1.trans k2)⟩
  rw [if_pos hr]
  rw [decide_eq_true hr] at hR
  replace hlen := hlen hr
  obtain ⟨f, ep, u, ct, fe, go, l⟩ := L
  have k1 := (Only.refl [] w).alloc (.cells #[.int .u32 f, .int .u32 ep, .int .u32 u, .int .u32 ct, .bool fe, .bool go, .slice A l.length c] 25)
  have b1 := Lx.new w f ep u ct fe go l (.slice A l.length c)
  simp only at hb hlen
  simp only [lkV] at hR ⊢
  replace hR := Lib.hid hR
  replace hr := Lib.hid hr
  clear hl
  go_enter Try.func13, Try.ntmps13
  go_wp2_with fail
  generalize hwb : w.alloc (.cells #[.int .u32 f, .int .u32 ep, .int .u32 u, .int .u32 ct, .bool fe, .bool go, .slice A l.length c] 25) = wb at *
  replace hwb := Lib.hid hwb
  refine (hR.out _ k1).mono ?_; rintro e w3 ⟨rfl, k3⟩
  have k2 := Lib.hid k1
  have b2 := b1
  obtain ⟨c0, c1, c2, c3, c4, c5, c6⟩ := b1.at k3 (by simp)
  clear k1 b1
  go_wp2_with fail
  clear c0 c1 c2 c3 c4 c5 c6
  go_loopw [7, 16] (fun v a wr => ∃ n : Nat, n ≤ l.length ∧ a = .int .i64 n ∧ Mine nuE 1 22 wb wr v (othersL (l.take n) cl m)) (fun _ a _ => l.length - (intOf a).toNat)
  case atStart => exact ⟨0, Nat.zero_le _, rfl, Mine.start _ _ _ k3⟩
  case round =>
    clear k3
    obtain ⟨n, hn, rfl, hm⟩ := hrel
    have hk := k2.out.trans hm.only
    obtain ⟨LL, hLL⟩ : ∃ LL, othersL (l.take n) cl m = LL := ⟨_, rfl⟩
    rw [hLL] at hm
    have hLn : LL.length ≤ 1000 := by rw [← hLL]; exact Nat.le_trans (others_le _ _ _) (by rw [List.length_take]; omega)
    replace hLL := Lib.hid hLL
    obtain ⟨c0, c1, c2, c3, c4, c5, c6⟩ := b2.at hm.only (by simp)
    by_cases hlt : n < l.length
    rotate_left
    · have hfin := Mine.from k2.out hm
      rw [← hLL.out, List.take_of_length_le (by omega)] at hfin
      replace hfin := Lib.hid hfin
      clear hm
      go_wp2
      go_ret
      exact ⟨_, rfl, hfin.out⟩
    obtain ⟨g, o, rfl, hg, hat⟩ := hb.get hlt
    have hg1 : g < wr.heap.size := Nat.lt_of_lt_of_le hg hk.size
    have hg2 : ¬ g = wr.heap.size := by omega
    have hq1 : w.heap.size < wr.heap.size := World.block_lt_of_cell? wr _ c0
    have hq2 : ¬ w.heap.size = wr.heap.size := by omega
    obtain ⟨e0, e1⟩ := hols_at (hat.kept hk (by simp)) hlt
    have hx : l[n]? = some l[n] := List.getElem?_eq_getElem hlt
    generalize l[n] = x at *
    obtain ⟨x0, x1⟩ := x
    simp only at e0 e1
    replace hx := Lib.hid hx
    clear hat
    have hcs : (x0 = cl) ∨ (x0 ≠ cl ∧ m ≠ 1) ∨ (x0 ≠ cl ∧ m = 1 ∧ x1 = 2) ∨ (x0 ≠ cl ∧ m = 1 ∧ x1 ≠ 2) := by omega
    rcases hcs with hc | hc | hc | hc
    · have d1 : (x0 != cl) = false := by simpa using hc
      have hnx : othersL (l.take (n + 1)) cl m = LL := by rw [get_snoc hx.out, others_snoc, hLL.out, if_neg (by simp only [isO, decide_eq_true_eq]; omega)]; simp
      replace hc := Lib.hid hc
      replace hnx := Lib.hid hnx
      go_wp2_with fail
      go_roundw
      case rel => exact ⟨n + 1, by omega, by go_num, by rw [hnx.out]; exact hm.keep ((Only.refl [] wr).alloc _)⟩
      case measure => simp [intOf]; omega
    · have d1 : (x0 != cl) = true := by simpa using hc.1
      have d2 : (m != 1) = true := by simpa using hc.2
      have hnx : othersL (l.take (n + 1)) cl m = LL ++ [x0] := by rw [get_snoc hx.out, others_snoc, hLL.out, if_pos (by simp only [isO, decide_eq_true_eq]; omega)]
      replace hc := Lib.hid hc
      replace hnx := Lib.hid hnx
      have hm5 := (hm.keep ((Only.refl [] wr).alloc (.cells #[.int .u32 x0, .int .u32 x1] 47))).keep ((Only.refl [] _).alloc (.cells #[.int .u32 x0] 22))
      have b5 : Blk ((wr.alloc (.cells #[.int .u32 x0, .int .u32 x1] 47)).alloc (.cells #[.int .u32 x0] 22)) (wr.heap.size + 1) 22 (nuE x0).toArray := by
        have h := Blk.new (wr.alloc (.cells #[.int .u32 x0, .int .u32 x1] 47)) 22 #[.int .u32 x0]
        rw [show (wr.alloc (.cells #[.int .u32 x0, .int .u32 x1] 47)).heap.size = wr.heap.size + 1 by simp] at h
        exact h
      go_wp2_with (at_builtin; go_must (refine wpList_push rfl _ _ 30 rfl 22 _ 4 nuE_length (by decide) nuE_one Try.underlying30 info_nu rfl _ LL.length LL rfl hm5.own (wr.heap.size + 1) x0 _ rfl b5 (by unfold maxLen; omega) (by omega) ?_); intro vv w6 h6 g6 a6)
      have hm6 := hm5.pushed h6 g6 a6
      replace hm6 := Lib.hid hm6
      clear h6 g6 a6 hm5 b5
      go_wp2_with fail
      go_roundw
      case rel => exact ⟨n + 1, by omega, by go_num, by rw [hnx.out]; exact hm6.out⟩
      case measure => simp [intOf]; omega
    · have d1 : (x0 != cl) = true := by simpa using hc.1
      have d2 : (m != 1) = false := by simpa using hc.2.1
      have d3 : (x1 == 2) = true := by simpa using hc.2.2
      have hnx : othersL (l.take (n + 1)) cl m = LL ++ [x0] := by rw [get_snoc hx.out, others_snoc, hLL.out, if_pos (by simp only [isO, decide_eq_true_eq]; omega)]
      replace hc := Lib.hid hc
      replace hnx := Lib.hid hnx
      have hm5 := (hm.keep ((Only.refl [] wr).alloc (.cells #[.int .u32 x0, .int .u32 x1] 47))).keep ((Only.refl [] _).alloc (.cells #[.int .u32 x0] 22))
      have b5 : Blk ((wr.alloc (.cells #[.int .u32 x0, .int .u32 x1] 47)).alloc (.cells #[.int .u32 x0] 22)) (wr.heap.size + 1) 22 (nuE x0).toArray := by
        have h := Blk.new (wr.alloc (.cells #[.int .u32 x0, .int .u32 x1] 47)) 22 #[.int .u32 x0]
        rw [show (wr.alloc (.cells #[.int .u32 x0, .int .u32 x1] 47)).heap.size = wr.heap.size + 1 by simp] at h
        exact h
      go_wp2_with (at_builtin; go_must (refine wpList_push rfl _ _ 30 rfl 22 _ 4 nuE_length (by decide) nuE_one Try.underlying30 info_nu rfl _ LL.length LL rfl hm5.own (wr.heap.size + 1) x0 _ rfl b5 (by unfold maxLen; omega) (by omega) ?_); intro vv w6 h6 g6 a6)
      have hm6 := hm5.pushed h6 g6 a6
      replace hm6 := Lib.hid hm6
      clear h6 g6 a6 hm5 b5
      go_wp2_with fail
      go_roundw
      case rel => exact ⟨n + 1, by omega, by go_num, by rw [hnx.out]; exact hm6.out⟩
      case measure => simp [intOf]; omega
    · have d1 : (x0 != cl) = true := by simpa using hc.1
      have d2 : (m != 1) = false := by simpa using hc.2.1
      have d3 : (x1 == 2) = false := by simpa using hc.2.2
      have hnx : othersL (l.take (n + 1)) cl m = LL := by rw [get_snoc hx.out, others_snoc, hLL.out, if_neg (by simp only [isO, decide_eq_true_eq]; omega)]; simp
      replace hc := Lib.hid hc
      replace hnx := Lib.hid hnx
      go_wp2_with fail
      go_roundw
      case rel => exact ⟨n + 1, by omega, by go_num, by rw [hnx.out]; exact hm.keep ((Only.refl [] wr).alloc _)⟩
      case measure => simp [intOf]; omega

set_option maxRecDepth 100000 in
set_option maxHeartbeats 4000000 in
theorem rothers_any (w : World) (L : Lk) (A : Option Addr) (c : Nat) (cl m : Int) (hb : Els holE 2 w A L.hs) (hl : L.hs.length ≤ 1000) :
    Calls Try.prog 15 #[lkV L (.slice A L.hs.length c), .int .u32 cl, .int .u32 m] w fun e w' => NuAns w w' e (othersL L.hs cl m) := by
  obtain ⟨f, ep, u, ct, fe, go, l⟩ := L
  have k1 := (Only.refl [] w).alloc (.cells #[.int .u32 f, .int .u32 ep, .int .u32 u, .int .u32 ct, .bool fe, .bool go, .slice A l.length c] 25)
  have b1 := Lx.new w f ep u ct fe go l (.slice A l.length c)
  simp only at hb hl
  simp only [lkV]
  go_enter Try.func15, Try.ntmps15
  go_wp2_with fail
  generalize hwb : w.alloc (.cells #[.int .u32 f, .int .u32 ep, .int .u32 u, .int .u32 ct, .bool fe, .bool go, .slice A l.length c] 25) = wb at *
  replace hwb := Lib.hid hwb
  have k2 := Lib.hid k1
  have b2 := b1
  clear k1 b1
  go_loopw [7, 8] (fun v a wr => ∃ n : Nat, n ≤ l.length ∧ a = .int .i64 n ∧ Mine nuE 1 22 wb wr v (othersL (l.take n) cl m)) (fun _ a _ => l.length - (intOf a).toNat)
  case atStart => exact ⟨0, Nat.zero_le _, rfl, Mine.start _ _ _ (Only.refl _ _)⟩
  case round =>
    skip
    obtain ⟨n, hn, rfl, hm⟩ := hrel
    have hk := k2.out.trans hm.only
    obtain ⟨LL, hLL⟩ : ∃ LL, othersL (l.take n) cl m = LL := ⟨_, rfl⟩
    rw [hLL] at hm
    have hLn : LL.length ≤ 1000 := by rw [← hLL]; exact Nat.le_trans (others_le _ _ _) (by rw [List.length_take]; omega)
    replace hLL := Lib.hid hLL
    obtain ⟨c0, c1, c2, c3, c4, c5, c6⟩ := b2.at hm.only (by simp)
    by_cases hlt : n < l.length
    rotate_left
    · have hfin := Mine.from k2.out hm
      rw [← hLL.out, List.take_of_length_le (by omega)] at hfin
      replace hfin := Lib.hid hfin
      clear hm
      go_wp2
      go_ret
      exact ⟨_, rfl, hfin.out⟩
    obtain ⟨g, o, rfl, hg, hat⟩ := hb.get hlt
    have hg1 : g < wr.heap.size := Nat.lt_of_lt_of_le hg hk.size
    have hg2 : ¬ g = wr.heap.size := by omega
    have hq1 : w.heap.size < wr.heap.size := World.block_lt_of_cell? wr _ c0
    have hq2 : ¬ w.heap.size = wr.heap.size := by omega
    obtain ⟨e0, e1⟩ := hols_at (hat.kept hk (by simp)) hlt
    have hx : l[n]? = some l[n] := List.getElem?_eq_getElem hlt
    generalize l[n] = x at *
    obtain ⟨x0, x1⟩ := x
    simp only at e0 e1
    replace hx := Lib.hid hx
    clear hat
    have hcs : (x0 = cl) ∨ (x0 ≠ cl ∧ m ≠ 1) ∨ (x0 ≠ cl ∧ m = 1 ∧ x1 = 2) ∨ (x0 ≠ cl ∧ m = 1 ∧ x1 ≠ 2) := by omega
    rcases hcs with hc | hc | hc | hc
    · have d1 : (x0 != cl) = false := by simpa using hc
      have hnx : othersL (l.take (n + 1)) cl m = LL := by rw [get_snoc hx.out, others_snoc, hLL.out, if_neg (by simp only [isO, decide_eq_true_eq]; omega)]; simp
      replace hc := Lib.hid hc
      replace hnx := Lib.hid hnx
      go_wp2_with fail
      go_roundw
      case rel => exact ⟨n + 1, by omega, by go_num, by rw [hnx.out]; exact hm.keep ((Only.refl [] wr).alloc _)⟩
      case measure => simp [intOf]; omega
    · have d1 : (x0 != cl) = true := by simpa using hc.1
      have d2 : (m != 1) = true := by simpa using hc.2
      have hnx : othersL (l.take (n + 1)) cl m = LL ++ [x0] := by rw [get_snoc hx.out, others_snoc, hLL.out, if_pos (by simp only [isO, decide_eq_true_eq]; omega)]
      replace hc := Lib.hid hc
      replace hnx := Lib.hid hnx
      have hm5 := (hm.keep ((Only.refl [] wr).alloc (.cells #[.int .u32 x0, .int .u32 x1] 47))).keep ((Only.refl [] _).alloc (.cells #[.int .u32 x0] 22))
      have b5 : Blk ((wr.alloc (.cells #[.int .u32 x0, .int .u32 x1] 47)).alloc (.cells #[.int .u32 x0] 22)) (wr.heap.size + 1) 22 (nuE x0).toArray := by
        have h := Blk.new (wr.alloc (.cells #[.int .u32 x0, .int .u32 x1] 47)) 22 #[.int .u32 x0]
        rw [show (wr.alloc (.cells #[.int .u32 x0, .int .u32 x1] 47)).heap.size = wr.heap.size + 1 by simp] at h
        exact h
      go_wp2_with (at_builtin; go_must (refine wpList_push rfl _ _ 30 rfl 22 _ 4 nuE_length (by decide) nuE_one Try.underlying30 info_nu rfl _ LL.length LL rfl hm5.own (wr.heap.size + 1) x0 _ rfl b5 (by unfold maxLen; omega) (by omega) ?_); intro vv w6 h6 g6 a6)
      have hm6 := hm5.pushed h6 g6 a6
      replace hm6 := Lib.hid hm6
      clear h6 g6 a6 hm5 b5
      go_wp2_with fail
      go_roundw
      case rel => exact ⟨n + 1, by omega, by go_num, by rw [hnx.out]; exact hm6.out⟩
      case measure => simp [intOf]; omega
    · have d1 : (x0 != cl) = true := by simpa using hc.1
      have d2 : (m != 1) = false := by simpa using hc.2.1
      have d3 : (x1 == 2) = true := by simpa using hc.2.2
      have hnx : othersL (l.take (n + 1)) cl m = LL ++ [x0] := by rw [get_snoc hx.out, others_snoc, hLL.out, if_pos (by simp only [isO, decide_eq_true_eq]; omega)]
      replace hc := Lib.hid hc
      replace hnx := Lib.hid hnx
      have hm5 := (hm.keep ((Only.refl [] wr).alloc (.cells #[.int .u32 x0, .int .u32 x1] 47))).keep ((Only.refl [] _).alloc (.cells #[.int .u32 x0] 22))
      have b5 : Blk ((wr.alloc (.cells #[.int .u32 x0, .int .u32 x1] 47)).alloc (.cells #[.int .u32 x0] 22)) (wr.heap.size + 1) 22 (nuE x0).toArray := by
        have h := Blk.new (wr.alloc (.cells #[.int .u32 x0, .int .u32 x1] 47)) 22 #[.int .u32 x0]
        rw [show (wr.alloc (.cells #[.int .u32 x0, .int .u32 x1] 47)).heap.size = wr.heap.size + 1 by simp] at h
        exact h
      go_wp2_with (at_builtin; go_must (refine wpList_push rfl _ _ 30 rfl 22 _ 4 nuE_length (by decide) nuE_one Try.underlying30 info_nu rfl _ LL.length LL rfl hm5.own (wr.heap.size + 1) x0 _ rfl b5 (by unfold maxLen; omega) (by omega) ?_); intro vv w6 h6 g6 a6)
      have hm6 := hm5.pushed h6 g6 a6
      replace hm6 := Lib.hid hm6
      clear h6 g6 a6 hm5 b5
      go_wp2_with fail
      go_roundw
      case rel => exact ⟨n + 1, by omega, by go_num, by rw [hnx.out]; exact hm6.out⟩
      case measure => simp [intOf]; omega
    · have d1 : (x0 != cl) = true := by simpa using hc.1
      have d2 : (m != 1) = false := by simpa using hc.2.1
      have d3 : (x1 == 2) = false := by simpa using hc.2.2
      have hnx : othersL (l.take (n + 1)) cl m = LL := by rw [get_snoc hx.out, others_snoc, hLL.out, if_neg (by simp only [isO, decide_eq_true_eq]; omega)]; simp
      replace hc := Lib.hid hc
      replace hnx := Lib.hid hnx
      go_wp2_with fail
      go_roundw
      case rel => exact ⟨n + 1, by omega, by go_num, by rw [hnx.out]; exact hm.keep ((Only.refl [] wr).alloc _)⟩
      case measure => simp [intOf]; omega
end Go.Proofs.Ytnmmdnecojgccaa
