/- The document's Resize and Same. -/
import Derived.Test.YteiekfccfddmjaaDoorAlive10
namespace Go.Proofs.YteiekfccfddmjaaDoor
open Go.RowKit

theorem idxI_posN {t : List Nd} (h : t.Pairwise (fun a b => a.id < b.id)) {i : Int} {k : Nat} (hk : idxI t i = some k) : k = posN t i := by
  obtain ⟨x, hx, e, hg⟩ := idxI_some hk
  have h1 := posN_iff h (i := i) hx
  have h2 := getI_pos h hg
  have h3 := posN_iff h (i := i) h2
  rw [e] at h1 h3
  have h4 : ¬ k < posN t i := fun q => by have := h1.2 q; omega
  rcases Nat.lt_or_ge (posN t i) k with q | q
  · have ha := List.getElem?_eq_some_iff.1 h2
    have hb := List.getElem?_eq_some_iff.1 hx
    have := List.pairwise_iff_getElem.1 h (posN t i) k ha.1 hb.1 q
    rw [ha.2, hb.2] at this
    omega
  · omega
theorem nds_mine {w w2 w3 : World} {v : Value} {l : List Nd} (hk0 : Only [] w w2) (h6 : w3.ownsRow 0 28 5 v (0 + l.length) (encs ndE ([] ++ l))) (g6 : (w2.alloc (.cells #[] 28)).grownBy w3 (Value.ownBlock (.slice (some ⟨w2.heap.size, 0, none⟩) 0 0)))
    (a6 : v.ownBlock = Value.ownBlock (.slice (some ⟨w2.heap.size, 0, none⟩) 0 0) ∨ v.ownBlock = some (w2.alloc (.cells #[] 28)).heap.size) : Mine ndE 5 28 w w3 v l := by
  have hz : w.heap.size ≤ w2.heap.size := hk0.size
  rw [Nat.zero_add, List.nil_append] at h6
  refine ⟨h6, fun j hj => ?_, (hk0.alloc _).grown g6 (fun j hj => ?_)⟩
  · rcases a6 with a6 | a6
    · rw [a6] at hj; have hj : w2.heap.size = j := Option.some.inj hj; omega
    · rw [a6] at hj; injection hj with hj; simp at hj; omega
  · have hj : w2.heap.size = j := Option.some.inj hj; right; omega

set_option maxRecDepth 100000 in
set_option maxHeartbeats 4000000 in
theorem rresize_any (w : World) (A : Option Addr) (c : Nat) (l : List Nd) (id size : Int) (hb : Els ndE 5 w A l) (hl : l.length ≤ 1000) :
    Calls Tryd.prog 30 #[.slice A l.length c, .int .u32 id, .int .u32 size] w fun e w' => PairAns w w' e (resizeR l id size).1 (.int .i64 (resizeR l id size).2) := by
  have hR := rright_bool w A c l hb (by omega)
  obtain ⟨R, hRR⟩ : ∃ R, R = resizeR l id size := ⟨_, rfl⟩
  rw [← hRR]
  unfold resizeR at hRR
  by_cases hT : Tree l
  rotate_left
  · have hr : R = ([], 1) := by rw [hRR, if_pos hT]
    have hR := hR false (bool_no hT)
    subst hr
    replace hR := Lib.hid hR
    clear hRR hT
    go_enter Tryd.func30, Tryd.ntmps30
    go_wp2_with fail
    refine hR.out.mono ?_; rintro e w1 ⟨rfl, k1⟩
    go_wp2
    go_ret2
    exact PairAns.no k1
  rw [if_neg (fun h => h hT)] at hRR
  have hR := hR true (bool_yes hT)
  have hG := fun W (k : Only [] w W) => rget_any W A c l id (hb.kept k (by simp)) (by omega)
  have hid := fun k => idxI_some (t := l) (i := id) (k := k)
  have hin := idxI_get (t := l) (i := id)
  have hip := fun k => idxI_posN (t := l) hT.rise (i := id) (k := k)
  generalize idxI l id = io at *
  generalize posN l id = po at *
  replace hR := Lib.hid hR
  clear hT
  cases io with
  | none =>
    simp only [Option.bind_none] at hin
    rw [← hin] at hRR
    simp only [idxV] at hG
    subst hRR
    replace hG := Lib.hid hG
    clear hid hip hin
    go_enter Tryd.func30, Tryd.ntmps30
    go_wp2_with fail
    refine hR.out.mono ?_; rintro e w1 ⟨rfl, k1⟩
    go_wp2_with fail
    refine (hG.out _ k1).mono ?_; rintro e w2 ⟨rfl, k2⟩
    go_wp2
    go_ret2
    exact PairAns.no (k1.trans k2)
  | some m =>
    have hpo := hip m rfl
    subst hpo
    obtain ⟨x, hx, hno, hg'⟩ := hid m rfl
    rw [hg'] at hRR
    clear hid hip hin hno hg'
    have hlt := (List.getElem?_eq_some_iff.1 hx).1
    have hxe : l[m] = x := (List.getElem?_eq_some_iff.1 hx).2
    have hne : l ≠ [] := fun q => by rw [q] at hlt; simp at hlt
    obtain ⟨g, o, rfl, hg, hat⟩ := hb.get hlt
    have hcl := fun W (k : Only [] w W) => (nds_at (hat.kept k (by simp)) hlt).2.2.2.1
    rw [hxe] at hcl
    have hmI : (m : Int) < (l.length : Int) := by omega
    have hmz : (0 : Int) ≤ (m : Int) := by omega
    have hm0 : ¬ (m : Int) < 0 := by omega
    simp only [idxV] at hG
    simp only at hRR
    replace hG := Lib.hid hG
    replace hcl := Lib.hid hcl
    replace hxe := Lib.hid hxe
    replace hat := Lib.hid hat
    replace hne := Lib.hid hne
    cases hd : x.dir with
    | true =>
      rw [if_pos hd] at hRR
      rw [hd] at hcl
      subst hRR
      replace hx := Lib.hid hx
      replace hd := Lib.hid hd
      go_enter Tryd.func30, Tryd.ntmps30
      go_wp2_with fail
      refine hR.out.mono ?_; rintro e w1 ⟨rfl, k1⟩
      go_wp2_with fail
      refine (hG.out _ k1).mono ?_; rintro e w2 ⟨rfl, k2⟩
      have hc3 := hcl.out _ (k1.trans k2)
      go_wp2
      go_ret2
      exact PairAns.no (k1.trans k2)
    | false =>
      rw [if_neg (by rw [hd]; simp)] at hRR
      rw [hd] at hcl
      by_cases hs : 1024 < size
      · rw [if_pos hs] at hRR
        subst hRR
        replace hx := Lib.hid hx
        replace hd := Lib.hid hd
        go_enter Tryd.func30, Tryd.ntmps30
        go_wp2_with fail
        refine hR.out.mono ?_; rintro e w1 ⟨rfl, k1⟩
        go_wp2_with fail
        refine (hG.out _ k1).mono ?_; rintro e w2 ⟨rfl, k2⟩
        have hc3 := hcl.out _ (k1.trans k2)
        go_wp2
        go_ret2
        exact PairAns.no (k1.trans k2)
      · rw [if_neg hs] at hRR
        replace hx := Lib.hid hx
        replace hd := Lib.hid hd
        replace hRR := Lib.hid hRR
        go_enter Tryd.func30, Tryd.ntmps30
        go_wp2_with fail
        refine hR.out.mono ?_; rintro e w1 ⟨rfl, k1⟩
        go_wp2_with fail
        refine (hG.out _ k1).mono ?_; rintro e w2 ⟨rfl, k2⟩
        have hk2 := k1.trans k2
        have hc3 := hcl.out _ hk2
        have hown : (w2.alloc (.cells #[] 28)).ownsRow 0 28 5 (.slice (some ⟨w2.heap.size, 0, none⟩) 0 0) 0 (encs ndE []) := own_empty (Blk.new _ _ _)
        have hat2 : ElsAt ndE 5 (w2.alloc (.cells #[] 28)) g o l := hat.out.kept (hk2.alloc _) (by simp)
        replace hown := Lib.hid hown
        replace hat2 := Lib.hid hat2
        go_wp2_with (at_builtin; go_must (refine wpList_append_els ndE_length (by decide) ndE_one rfl _ _ 22 rfl 28 _ 32 Tryd.underlying22 info_nd rfl _ 0 [] rfl hown.out g o l.length c l rfl rfl hat2.out (by unfold maxLen; omega) (by omega) ?_); intro vv w6 h6 g6 a6)
        have hmw := nds_mine hk2 h6 g6 a6
        clear h6 g6 a6 hown hat2
        obtain ⟨g2, c2, cur, T, rfl, hg2, hb2, hc2, _, _, _, hat3⟩ := hmw.row hne.out
        have d4 := (nds_at hat3 hlt).2.2.2.2
        rw [Nat.zero_add] at d4
        have f4 := hb2.free (m * 5 + 4)
        have hmf := hmw.sized hx.out size
        have hr' := hRR.out
        subst hr'
        replace hmf := Lib.hid hmf
        clear hc3 hat3 hb2 hmw
        go_wp2
        go_ret2
        exact ⟨_, rfl, hmf.out⟩

set_option maxHeartbeats 1000000 in
theorem rsame_yes (w : World) (A B : Option Addr) (c d : Nat) (l : List Nd) (hA : Els ndE 5 w A l) (hB : Els ndE 5 w B l) (hl : l.length ≤ 1024) :
    Calls Tryd.prog 28 #[.slice A l.length c, .slice B l.length d] w fun e w' => e = .returned (.bool true) ∧ Only [] w w' := by
  obtain ⟨n, hn⟩ : ∃ n, n = l.length := ⟨_, rfl⟩
  rw [← hn] at hl ⊢
  replace hn := Lib.hid hn
  go_enter Tryd.func28, Tryd.ntmps28
  go_wp2_with fail
  go_loopw [5] (fun i wr => ∃ k m : Nat, k ≤ n ∧ i = .int .i64 k ∧ wr = w.drewN m) (fun i _ => n - (intOf i).toNat)
  case atStart => exact ⟨0, 0, by omega, rfl, rfl⟩
  case round =>
    obtain ⟨k, m, hk, rfl, rfl⟩ := hrel
    by_cases hlt : k < n
    · have hk' : k < l.length := by have := hn.out; omega
      obtain ⟨g, o, rfl, _, hat⟩ := hA.get hk'
      obtain ⟨g', o', rfl, _, hat'⟩ := hB.get hk'
      obtain ⟨c0, c1, c2, c3, c4⟩ := nds_at hat hk'
      obtain ⟨d0, d1, d2, d3, d4⟩ := nds_at hat' hk'
      generalize l[k] = f at *
      obtain ⟨f0, f1, f2, f3, f4⟩ := f
      simp only at c0 c1 c2 c3 c4 d0 d1 d2 d3 d4
      generalize strOf f2 = s2 at *
      clear hat hat' hA hB
      go_wp2_with fail
      go_quiet (fail)
      go_wp2_with fail
      go_roundw
      case rel => exact ⟨k + 1, _, by omega, by go_num, rfl⟩
      case measure => simp [intOf]; omega
    · clear hA hB
      go_wp2
      go_ret
      exact ⟨rfl, (Only.refl [] w).drewN m⟩
end Go.Proofs.YteiekfccfddmjaaDoor
