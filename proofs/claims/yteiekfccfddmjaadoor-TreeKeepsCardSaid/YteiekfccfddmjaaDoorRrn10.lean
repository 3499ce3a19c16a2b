/- The document's Rename. -/
import Derived.Test.YteiekfccfddmjaaDoorRin10
import Derived.Test.YteiekfccfddmjaaDoorMove3
namespace Go.Proofs.YteiekfccfddmjaaDoor
open Go.RowKit

set_option maxRecDepth 100000 in
set_option maxHeartbeats 8000000 in
theorem rrename_any (w : World) (A : Option Addr) (c : Nat) (l : List Nd) (p o : List UInt8) (hb : Els ndE 5 w A l) (hc : l.length ≤ c) (hl : l.length ≤ 1000) (hpp : p.length ≤ 1048576) (hpo : o.length ≤ 1048576) :
    Calls Tryd.prog 32 #[.slice A l.length c, .string (strOf p), .string (strOf o)] w fun e w' => PairAns w w' e (renameR l p o).1 (.int .i64 (renameR l p o).2) := by
  have hlI : (l.length : Int) ≤ 1000 := by omega
  have hS := fun W => rsplit_any W p hpp
  have hS2 := fun W => rsplit_any W o hpo
  obtain ⟨R, hR⟩ : ∃ R, R = renameR l p o := ⟨_, rfl⟩
  rw [← hR]
  by_cases hT : Tree l
  rotate_left
  · have hRR := rright_bool w A c l hb (by omega) false (bool_no hT)
    have e2 : errOf l p = 1 := by rw [errOf, if_neg hT]
    rw [renameR, e2, if_pos (by decide)] at hR
    subst hR
    replace hRR := Lib.hid hRR
    replace hS := Lib.hid hS
    replace hS2 := Lib.hid hS2
    clear hT e2
    go_enter Tryd.func32, Tryd.ntmps32
    go_wp2_with fail
    refine hRR.out.mono ?_; rintro e w1 ⟨rfl, k1⟩
    go_wp2
    go_ret2
    exact PairAns.no k1
  have hRR := rright_bool w A c l hb (by omega) true (bool_yes hT)
  replace hRR := Lib.hid hRR
  cases hsp : splitL p with
  | none =>
    have e2 : errOf l p = 9 := by rw [errOf, if_pos hT, hsp]; rfl
    rw [renameR, e2, if_pos (by decide)] at hR
    subst hR
    rw [hsp] at hS
    simp only [Option.isSome_none, Option.getD_none] at hS
    replace hS := Lib.hid hS
    replace hS2 := Lib.hid hS2
    clear hT e2 hsp
    go_enter Tryd.func32, Tryd.ntmps32
    go_wp2_with fail
    refine hRR.out.mono ?_; rintro e w1 ⟨rfl, k1⟩
    go_wp2_with fail
    refine (hS.out _).mono ?_; rintro e w2 ⟨B, d, rfl, h1, h2, k2⟩
    go_wp2_with fail
    refine (hS2.out _).mono ?_; rintro e w3 ⟨B', d', rfl, h1', h2', k3⟩
    go_wp2
    go_ret2
    exact PairAns.no ((k1.trans k2).trans k3)
  | some na =>
  have hle := splitL_le hsp
  have e2 : errOf l p = 0 := by rw [errOf, if_pos hT, hsp]; rfl
  have e3 : namesOf l p = na := by rw [namesOf, if_pos hT, hsp]; rfl
  rw [renameR, e2, if_neg (by decide), e3] at hR
  rw [hsp] at hS
  simp only [Option.isSome_some, Option.getD_some] at hS
  replace hS := Lib.hid hS
  cases hsb : splitL o with
  | none =>
    rw [hsb] at hR hS2
    rw [if_pos (show (none : Option (List (List UInt8))).isSome = false from rfl)] at hR
    simp only [Option.isSome_none, Option.getD_none] at hS2
    subst hR
    replace hS2 := Lib.hid hS2
    clear hT e2 e3 hsp hsb
    go_enter Tryd.func32, Tryd.ntmps32
    go_wp2_with fail
    refine hRR.out.mono ?_; rintro e w1 ⟨rfl, k1⟩
    go_wp2_with fail
    refine (hS.out _).mono ?_; rintro e w2 ⟨B, d, rfl, h1, h2, k2⟩
    go_wp2_with fail
    refine (hS2.out _).mono ?_; rintro e w3 ⟨B', d', rfl, h1', h2', k3⟩
    go_wp2
    go_ret2
    exact PairAns.no ((k1.trans k2).trans k3)
  | some nb =>
  have hle2 := splitL_le hsb
  rw [hsb] at hR hS2
  simp only [Option.isSome_some, Option.getD_some] at hR hS2
  rw [if_neg (by decide)] at hR
  replace hS2 := Lib.hid hS2
  have hl0 := List.length_pos_iff.2 (show l ≠ [] from fun h => by have := hT.head; rw [h] at this; cases this)
  have hW := fun W B d (k : Only [] w W) hB => rwalk_any W A B c d l na (hb.kept k (by simp)) (by omega) hl0 hB (by omega)
  have hAb := fun W B d (k : Only [] w W) hB hd => above_any W A B c d l nb (hb.kept k (by simp)) (by omega) hT hB (by omega) hd
  obtain ⟨s1, s2, s3, s4⟩ := walk_same hT na 0 rootN hT.get0
  generalize walkI l 0 na = I at *
  obtain ⟨k, ek⟩ := I
  have hwm := walkR_mem hT na rootN hT.root_mem
  generalize walkR l rootN na = Wn at *
  obtain ⟨n, en⟩ := Wn
  simp only at hR hW s1 s2 s3 s4 hwm
  subst s1
  clear s4 hsp hsb e2 e3
  replace hW := Lib.hid hW
  have hb' : Hid (Els ndE 5 w A l) := hb
  have hT' := Lib.hid hT
  by_cases he : ek = 0
  rotate_left
  · rw [if_pos he] at hR
    have heb : (ek != 0) = true := by simpa using he
    subst hR
    replace hAb := Lib.hid hAb
    clear s2 s3 hwm hT hb
    go_enter Tryd.func32, Tryd.ntmps32
    go_wp2_with fail
    refine hRR.out.mono ?_; rintro e w1 ⟨rfl, k1⟩
    go_wp2_with fail
    refine (hS.out _).mono ?_; rintro e w2 ⟨B, d, rfl, h1, h2, k2⟩
    go_wp2_with fail
    refine (hS2.out _).mono ?_; rintro e w3 ⟨B', d', rfl, h1', h2', k3⟩
    have hk3 := (k1.trans k2).trans k3
    have h23 := h2.kept k3 (fun a _ => by simp)
    go_wp2_with fail
    refine (hW.out _ _ _ hk3 h23).mono ?_; rintro e w4 ⟨rfl, k4⟩
    go_wp2
    go_ret2
    exact PairAns.no (hk3.trans k4)
  subst he
  rw [if_neg (by decide)] at hR
  have hx := s3 rfl
  have hnm := hwm rfl
  have hfirst := hT.first hx
  have hkI : (k : Int) < (l.length : Int) := by omega
  have hkz : (0 : Int) ≤ (k : Int) := by omega
  replace hx := Lib.hid hx
  clear s3 hwm
  by_cases h1 : n.id = 1
  · rw [if_pos h1] at hR
    have hk00 := hfirst.2 h1
    have hk0b : ((k : Int) == 0) = true := by simp [hk00]
    subst hR
    replace hk00 := Lib.hid hk00
    replace h1 := Lib.hid h1
    replace hAb := Lib.hid hAb
    clear hfirst hT hb
    go_enter Tryd.func32, Tryd.ntmps32
    go_wp2_with fail
    refine hRR.out.mono ?_; rintro e w1 ⟨rfl, k1⟩
    go_wp2_with fail
    refine (hS.out _).mono ?_; rintro e w2 ⟨B, d, rfl, q1, h2, k2⟩
    go_wp2_with fail
    refine (hS2.out _).mono ?_; rintro e w3 ⟨B', d', rfl, h1', h2', k3⟩
    have hk3 := (k1.trans k2).trans k3
    have h23 := h2.kept k3 (fun a _ => by simp)
    go_wp2_with fail
    refine (hW.out _ _ _ hk3 h23).mono ?_; rintro e w4 ⟨rfl, k4⟩
    go_wp2
    go_ret2
    exact PairAns.no (hk3.trans k4)
  rw [if_neg h1] at hR
  have hk0b : ((k : Int) == 0) = false := by rw [beq_eq_false_iff_ne]; intro e; exact h1 (hfirst.1 (by omega))
  have hnmE := spotR_name (t := l) (names := nb)
  have hwq9 : ∀ (q : List (List UInt8)), (spotR l nb).2.2 = 0 → nb = q ++ [(spotR l nb).2.1] → (spotR l nb).1 = (walkR l rootN q).1 ∧ (walkR l rootN q).2 = 0 := fun q hs' hq => by
    rw [hq, spotR_last] at hs' ⊢
    by_cases h1 : (walkR l rootN q).2 = 0
    · rw [if_pos h1] at hs' ⊢
      by_cases h2 : (walkR l rootN q).1.dir = true
      · rw [if_pos h2]; exact ⟨rfl, h1⟩
      · rw [if_neg h2] at hs'; cases hs'
    · rw [if_neg h1] at hs'; exact absurd hs' h1
  have hme := spotR_mem hT nb
  clear hfirst
  generalize spotR l nb = S at *
  obtain ⟨⟨y0, y1, y2, y3, y4⟩, nm, es⟩ := S
  simp only at hR hnmE hme hwq9
  replace hAb := Lib.hid hAb
  replace h1 := Lib.hid h1
  by_cases he : es = 0
  rotate_left
  · rw [if_pos he] at hR
    have heb : (es != 0) = true := by simpa using he
    subst hR
    clear hnmE hme hT hb hwq9
    go_enter Tryd.func32, Tryd.ntmps32
    go_wp2_with fail
    refine hRR.out.mono ?_; rintro e w1 ⟨rfl, k1⟩
    go_wp2_with fail
    refine (hS.out _).mono ?_; rintro e w2 ⟨B, d, rfl, q1, h2, k2⟩
    go_wp2_with fail
    refine (hS2.out _).mono ?_; rintro e w3 ⟨B', d', rfl, h1', h2', k3⟩
    have hk3 := (k1.trans k2).trans k3
    have h23 := h2.kept k3 (fun a _ => by simp)
    go_wp2_with fail
    refine (hW.out _ _ _ hk3 h23).mono ?_; rintro e w4 ⟨rfl, k4⟩
    have h24 := h2'.kept k4 (fun a _ => by simp)
    go_wp2_with fail
    refine (hAb.out _ _ _ (hk3.trans k4) h24 h1').mono ?_; rintro e w5 ⟨kp, rfl, _, k5⟩
    simp only
    go_wp2
    go_ret2
    exact PairAns.no ((hk3.trans k4).trans k5)
  subst he
  rw [if_neg (by decide)] at hR
  obtain ⟨q, hq⟩ := hnmE rfl
  obtain ⟨hmem, hdir⟩ := hme rfl
  try simp only at hdir
  clear hnmE hme
  have hy1 : 1 ≤ y0 := hT.pos hmem
  have hn1 := hT.pos hnm
  have hupq : Hid (up (parF l) q.length y0 = some 1) := by
    obtain ⟨h9, h8⟩ := hwq9 q rfl hq
    have := walk_up hT q rootN hT.root_mem h8
    rw [← h9] at this
    exact this
  have hIn := fun W (kk : Only [] w W) kp (hkp : l[kp]? = some ⟨y0, y1, y2, y3, y4⟩) => rin_any W A c l kp k ⟨y0, y1, y2, y3, y4⟩ n (hb.kept kk (by simp)) hl hT hkp hx.out
  have hKd := fun W (k : Only [] w W) => rkid_any W A c l y0 nm (hb.kept k (by simp)) (by omega) (by omega)
  have hKs := fun W (k : Only [] w W) => rkids_same W A c l y0 (hb.kept k (by simp)) (by omega) (by omega)
  have hkx := hT.kidX_kid hy1 nm
  have hkl := hT.kids_le hy1
  have hks := kids1_eq hT.head (d := y0) (by omega)
  have hkxs := fun m => kidX_some (t := l) (d := y0) (s := nm) (k := m)
  have hiff : insB l n.id y0 = true ↔ Ins l n.id y0 := insB_iff hT ⟨_, hmem, rfl⟩ (by omega)
  simp only at hIn
  rw [hks] at hKs
  clear hks
  have hgen := Lib.hid hR
  clear hR
  generalize hbi : insB l n.id y0 = bi at *
  have hnl : (nb.length : Int) - 1 = (q.length : Int) := by rw [hq]; simp
  have hqn : (q.length : Int) < (nb.length : Int) := by rw [hq]; simp; omega
  have hcs : ∀ W B, Els strE 1 W B nb → Hid (∃ g o, B = some ⟨g, o, none⟩ ∧ W.cell? ⟨g, o + q.length, none⟩ = some (.string (strOf nm))) := fun W B hs => by
    have hs' : Els strE 1 W B (q ++ [nm]) := by rw [← hq]; exact hs
    obtain ⟨g, o, hB, hg, hat⟩ := hs'.get (i := q.length) (by simp)
    have := strs_at hat (i := q.length) (by simp)
    simp at this
    exact ⟨g, o, hB, this⟩
  have hll : Hid (nb.length ≤ 6) := hle2
  have hnq : Hid (nb.length = q.length + 1) := by rw [hq]; exact (by simp : (q ++ [nm]).length = q.length + 1)
  obtain ⟨nl, hnl0⟩ : ∃ nl, nl = nb.length := ⟨_, rfl⟩
  obtain ⟨ql, hql⟩ : ∃ ql, ql = q.length := ⟨_, rfl⟩
  have hnb : nl ≤ 1048576 := by have := hll.out; omega
  rw [← hnl0] at hnl hqn
  rw [← hql] at hnl hqn hcs
  replace hql := Lib.hid hql
  replace hq := Lib.hid hq
  replace hmem := Lib.hid hmem
  replace hnm := Lib.hid hnm
  replace hIn := Lib.hid hIn
  replace hKd := Lib.hid hKd
  replace hKs := Lib.hid hKs
  replace hkx := Lib.hid hkx
  replace hkxs := Lib.hid hkxs
  replace hiff := Lib.hid hiff
  replace hbi := Lib.hid hbi
  replace hdir := Lib.hid hdir
  have hnl0' := Lib.hid hnl0
  generalize hkn : kidsN l y0 = kn at *
  have hkn' := Lib.hid hkn
  clear hkn
  have hknI : (kn : Int) ≤ 12 := by omega
  have hrd : ∀ (j : Nat) (x : Nd), l[j]? = some x → Hid (∃ g o, A = some ⟨g, o, none⟩ ∧ j < l.length ∧ ∀ W, Only [] w W → W.cell? ⟨g, o + j * 5, none⟩ = some (.int .u32 x.id) ∧ W.cell? ⟨g, o + j * 5 + 1, none⟩ = some (.int .u32 x.par) ∧ W.cell? ⟨g, o + j * 5 + 2, none⟩ = some (.string (strOf x.name)) ∧ W.cell? ⟨g, o + j * 5 + 3, none⟩ = some (.bool x.dir) ∧ W.cell? ⟨g, o + j * 5 + 4, none⟩ = some (.int .u32 x.size)) := fun j x h => by
    have h1 := (List.getElem?_eq_some_iff.1 h).1
    have h2 : l[j] = x := (List.getElem?_eq_some_iff.1 h).2
    obtain ⟨g, o, hA, _, hat⟩ := hb.get h1
    refine ⟨g, o, hA, h1, fun W kk => ?_⟩
    have := nds_at (hat.kept kk (by simp)) h1
    rwa [h2] at this
  clear hT hb hwq9
  go_enter Tryd.func32, Tryd.ntmps32
  go_wp2_with fail
  refine hRR.out.mono ?_; rintro e w1 ⟨rfl, k1⟩
  go_wp2_with fail
  refine (hS.out _).mono ?_; rintro e w2 ⟨B, d, rfl, q1, h2, k2⟩
  go_wp2_with fail
  refine (hS2.out _).mono ?_; rintro e w3 ⟨B', d', rfl, h1', h2', k3⟩
  have hk3 := (k1.trans k2).trans k3
  have h23 := h2.kept k3 (fun a _ => by simp)
  have hABW := fun W (kk : Only [] w3 W) => hAb.out W B' d' (hk3.trans kk) (h2'.kept kk (fun a _ => by simp)) h1'
  rw [← hnl0] at hABW ⊢
  clear hnl0 k1 k2 k3 h2 q1
  replace hABW := Lib.hid hABW
  go_wp2_with fail
  refine (hW.out _ _ _ hk3 h23).mono ?_; rintro e w4 ⟨rfl, k4⟩
  have hk4 := hk3.trans k4
  go_wp2_with fail
  refine (hABW.out _ k4).mono ?_; rintro e w5 ⟨kp, rfl, hkp, k5⟩
  have hk5 := hk4.trans k5
  have hky := hkp rfl
  simp only at hky ⊢
  have hkpl := (List.getElem?_eq_some_iff.1 hky).1
  have hkpI : (kp : Int) < (l.length : Int) := by omega
  have hkpz : (0 : Int) ≤ (kp : Int) := by omega
  have hIn5 := hIn.out _ hk5 kp hky
  obtain ⟨gb, ob, rfl, hcb⟩ := (hcs _ _ ((h2'.kept k4 (fun a _ => by simp)).kept k5 (fun a _ => by simp))).out
  obtain ⟨g, o', rfl, _, hcy⟩ := (hrd kp _ hky).out
  obtain ⟨g', o'', hgo, _, hcn⟩ := (hrd k n hx.out).out
  injection hgo with hgo
  injection hgo with hgo1 hgo2
  subst hgo1
  subst hgo2
  simp only at hcy
  replace hky := Lib.hid hky
  replace hIn5 := Lib.hid hIn5
  replace hcb := Lib.hid hcb
  replace hcy := Lib.hid hcy
  replace hcn := Lib.hid hcn
  clear hkp h23 h1' h2' hABW hrd hcs
  go_wp2_with fail
  refine hIn5.out.mono ?_; rintro e w6 ⟨rfl, k6⟩
  have hk6 := hk5.trans k6
  have hcb6 := k6.cell hcb.out (by simp)
  cases bi with
  | true =>
    have hr : R = ([], 1) := by rw [hgen.out, if_pos rfl]
    subst hr
    clear hcb6
    go_wp2
    go_ret2
    exact PairAns.no hk6
  | false =>
  obtain ⟨cy0, _, _, _, _⟩ := hcy.out _ hk6
  go_wp2_with fail
  refine (hKd.out _ hk6).mono ?_; rintro e w7 ⟨rfl, k7⟩
  have hk7 := hk6.trans k7
  clear hcb6 cy0
  cases hxk : kidX l y0 nm with
  | some m =>
    obtain ⟨_, x, hx1, _⟩ := hkxs.out m hxk
    have hkN : kidN l y0 nm = some x := by have := hkx.out; rw [hxk, Option.bind_some, hx1] at this; exact this.symm
    simp only [idxV]
    by_cases hmk : m = k
    · have hxn : x = n := by rw [hmk, hx.out] at hx1; injection hx1 with hx1; exact hx1.symm
      have hr : R = (l, 0) := by rw [hgen.out, if_neg (by decide), hkN]; simp only; rw [if_pos (by rw [hxn])]
      have hmb : ((m : Int) == (k : Int)) = true := by simp [hmk]
      have hel := hb'.out
      have hown : (w7.alloc (.cells #[] 28)).ownsRow 0 28 5 (.slice (some ⟨w7.heap.size, 0, none⟩) 0 0) 0 (encs ndE []) := own_empty (Blk.new _ _ _)
      have hel2 := hel.kept (hk7.alloc (.cells #[] 28)) (by simp)
      replace hel := Lib.hid hel
      replace hown := Lib.hid hown
      replace hel2 := Lib.hid hel2
      replace hmk := Lib.hid hmk
      replace hxn := Lib.hid hxn
      replace hr := Lib.hid hr
      clear hx1 hkN hxk
      go_wp2_with (at_builtin; go_must (refine wpList_append_any ndE_length (by decide) ndE_one rfl _ _ 22 rfl 28 _ 32 Tryd.underlying22 info_nd rfl _ 0 [] rfl hown.out _ c l rfl hel2.out (by unfold maxLen; omega) (by omega) ?_); intro vv w8 h6 g6 a6)
      have hmw := nds_mine hk7 h6 g6 a6
      have hr' := hr.out
      subst hr'
      replace hmw := Lib.hid hmw
      clear h6 g6 a6
      go_wp2
      go_ret2
      exact ⟨_, rfl, hmw.out⟩
    · have hxn : x.id ≠ n.id := fun e => by
        have p1 := posN_of hT'.out.rise hx1
        have p2 := posN_of hT'.out.rise hx.out
        rw [e, p2] at p1
        exact hmk p1.symm
      have hr : R = ([], 8) := by rw [hgen.out, if_neg (by decide), hkN]; simp only; rw [if_neg hxn]
      have hmb : ((m : Int) == (k : Int)) = false := by rw [beq_eq_false_iff_ne]; omega
      have hm0 : (0 : Int) ≤ (m : Int) := by omega
      subst hr
      clear hx1 hkN hxk hxn
      replace hmk := Lib.hid hmk
      go_wp2
      go_ret2
      exact PairAns.no hk7
  | none =>
  have hkN : kidN l y0 nm = none := by have := hkx.out; rw [hxk, Option.bind_none] at this; exact this.symm
  have hgen2 : R = if y0 ≠ n.par ∧ 12 ≤ kn then ([], 16) else if 6 < nb.length + hgtN l n then ([], 9) else (l.set (posN l n.id) { n with par := y0, name := nm }, 0) := by rw [hgen.out, if_neg (by decide), hkN]
  have hmb : ((-1 : Int) == (k : Int)) = false := by rw [beq_eq_false_iff_ne]; omega
  simp only [idxV]
  obtain ⟨cy0, _, _, _, _⟩ := hcy.out _ hk7
  obtain ⟨cn0, cn1, cn2, cn3, cn4⟩ := hcn.out _ hk7
  obtain ⟨n0, n1, n2, n3, n4⟩ := n
  simp only at cn0 cn1 cn2 cn3 cn4 hgen2
  replace hgen2 := Lib.hid hgen2
  replace hkN := Lib.hid hkN
  clear hxk hgen
  have hpre : MovPre l ⟨n0, n1, n2, n3, n4⟩ ⟨y0, y1, y2, y3, y4⟩ nm q.length := ⟨hT'.out, hnm.out, h1.out, hmem.out, fun hh => (by have := hiff.out.2 hh; cases this), hupq.out⟩
  have hxr := hx.out
  have hoi := out_in (s := nm) hT'.out.rise hxr y0
  have hk9 := (List.getElem?_eq_some_iff.1 hxr).1
  have hrl' : (l.take k ++ l.drop (k + 1)).Pairwise (fun a b => a.id < b.id) := by
    have h0 := hT'.out.rise
    have hsp : l = l.take k ++ l[k] :: l.drop (k + 1) := by
      conv => lhs; rw [← List.take_append_drop k l, List.drop_eq_getElem_cons hk9]
    rw [hsp] at h0
    obtain ⟨g1, g2, g3⟩ := List.pairwise_append.1 h0
    exact List.pairwise_append.2 ⟨g1, (List.pairwise_cons.1 g2).2, fun u hu v hv => g3 u hu v (List.mem_cons_of_mem _ hv)⟩
  have hWo := fun W (kk : Only [] w W) => without_any W (some ⟨g, o', none⟩) c l k (hb'.out.kept kk (by simp)) hc hl hk9
  have hll' : (l.take k ++ l.drop (k + 1)).length ≤ 1000 := by simp; omega
  simp only at hoi
  generalize l.take k ++ l.drop (k + 1) = l' at *
  have hWi := fun W Aa ca (ea : Els ndE 5 W Aa l') (hca : l'.length ≤ ca) => with_any W Aa ca l' ⟨n0, y0, nm, n3, n4⟩ ea hca hll' hrl'
  have hyv : ndV ⟨n0, y0, nm, n3, n4⟩ = .agg #[.int .u32 n0, .int .u32 y0, .string (strOf nm), .bool n3, .int .u32 n4] := rfl
  simp only at hWi
  rw [hoi, hyv] at hWi
  have hdeep := hpre.high
  have hot0 : movT l ⟨n0, n1, n2, n3, n4⟩ y0 nm = l.set (posN l n0) ⟨n0, y0, nm, n3, n4⟩ := rfl
  have hotl : (movT l ⟨n0, n1, n2, n3, n4⟩ y0 nm).length = l.length := by simp [movT]
  simp only at hdeep
  generalize movT l ⟨n0, n1, n2, n3, n4⟩ y0 nm = ot at *
  have hotI : ot.length ≤ 1000 := by omega
  have hg7 : w.heap.size ≤ w7.heap.size := hk7.size
  have hot := Lib.hid hot0.symm
  replace hWo := Lib.hid hWo
  replace hWi := Lib.hid hWi
  replace hdeep := Lib.hid hdeep
  replace hpre := Lib.hid hpre
  replace hyv := Lib.hid hyv
  clear hot0 hotl hoi hrl' hxr hll'
  by_cases hdp : y0 = n1
  · have hdb : (y0 != n1) = false := by simp [hdp]
    have hr3 : Hid (R = if 6 < nb.length + hgtN l ⟨n0, n1, n2, n3, n4⟩ then ([], 9) else (l.set (posN l n0) ⟨n0, y0, nm, n3, n4⟩, 0)) := Lib.hid (by rw [hgen2.out, if_neg (fun e => e.1 hdp)])
    replace hdp := Lib.hid hdp
    go_wp2_with fail
    go_quiet (fail)
    go_wp2_with (refine wpList_store_nd ⟨n0, n1, n2, n3, n4⟩ zeroN rfl _ _ rfl w7.heap.size rfl rfl (Bx.zero _) ?_
                 intro w9 b9 k9
                 have K9 : Only [] w w9 := ((hk7.drewN _).alloc _).at0 k9 hg7
                 obtain ⟨cy9, _, _, _, _⟩ := hcy.out _ K9
                 obtain ⟨e0, e1, e2, e3, e4⟩ := Bx.cells b9
                 have f1 := Blk.free b9 1
                 have f2 := Blk.free b9 2
                 (try simp only at e0 e1 e2 e3 e4)
                 replace b9 := Lib.hid b9
                 clear cy0 cn0 cn1 cn2 cn3 cn4)
    have b10 : Bx ((w9.setCell ⟨w7.heap.size, 1, none⟩ (.int .u32 y0)).setCell ⟨w7.heap.size, 2, none⟩ (.string (strOf nm))) w7.heap.size ⟨n0, y0, nm, n3, n4⟩ := by
      have := Blk.set (Blk.set b9.out 1 (.int .u32 y0)) 2 (.string (strOf nm))
      show Blk _ _ _ (ndA _)
      simpa [ndA] using this
    have K10 : Only [] w ((w9.setCell ⟨w7.heap.size, 1, none⟩ (.int .u32 y0)).setCell ⟨w7.heap.size, 2, none⟩ (.string (strOf nm))) := (K9.setCell (.inr hg7) _).setCell (.inr hg7) _
    clear cy9 e0 e1 e2 e3 e4 f1 f2 K9 b9 k9
    generalize ((w9.setCell ⟨w7.heap.size, 1, none⟩ (.int .u32 y0)).setCell ⟨w7.heap.size, 2, none⟩ (.string (strOf nm))) = w10 at *
    generalize w7.heap.size = gx at *
    have KP : Hid (∀ w', Only [] w10 w' → w'.cell? ⟨gx, 0, none⟩ = some (.int .u32 n0) ∧ w'.cell? ⟨gx, 1, none⟩ = some (.int .u32 y0) ∧ w'.cell? ⟨gx, 2, none⟩ = some (.string (strOf nm)) ∧ w'.cell? ⟨gx, 3, none⟩ = some (.bool n3) ∧ w'.cell? ⟨gx, 4, none⟩ = some (.int .u32 n4)) := fun w' kk => (b10.kept kk (by simp)).cells
    clear b10
    refine wp_region_held_drew (S := fun w' => w'.cell? ⟨gx, 0, none⟩ = some (.int .u32 n0) ∧ w'.cell? ⟨gx, 1, none⟩ = some (.int .u32 y0) ∧ w'.cell? ⟨gx, 2, none⟩ = some (.string (strOf nm)) ∧ w'.cell? ⟨gx, 3, none⟩ = some (.bool n3) ∧ w'.cell? ⟨gx, 4, none⟩ = some (.int .u32 n4)) (by kernel_rfl) (KP.out _ (Only.refl _ _).drew) (fun hHeld => ?_)
    refine held_take 0 (.slice (some ⟨g, o', none⟩) l.length c) rfl (by kernel_rfl) (by kernel_rfl) (by kernel_rfl) (fun _ _ _ h => h) hHeld (Or.inl ⟨by rfl, fun w' hSw => by (try dsimp only at hSw); (try subst hSw); go_simp⟩) ?_
    simp only [Act.put, List.setIfInBounds_toArray, List.set_cons_zero, List.set_cons_succ]
    refine held_take 1 (.int .i64 k) rfl (by kernel_rfl) (by kernel_rfl) (by kernel_rfl) (fun _ _ _ h => h) hHeld (Or.inl ⟨by rfl, fun w' hSw => by (try dsimp only at hSw); (try subst hSw); go_simp⟩) ?_
    simp only [Act.put, List.setIfInBounds_toArray, List.set_cons_zero, List.set_cons_succ]
    refine held_take 3 (.agg #[.int .u32 n0, .int .u32 y0, .string (strOf nm), .bool n3, .int .u32 n4]) rfl (by kernel_rfl) (by kernel_rfl) (by kernel_rfl) (fun _ _ _ h => h) hHeld (Or.inl ⟨by rfl, fun w' hSw => by (try dsimp only at hSw); (try subst hSw); go_simp⟩) ?_
    simp only [Act.put, List.setIfInBounds_toArray, List.set_cons_zero, List.set_cons_succ]
    have hk11 := K10.drew
    refine held_step 2 rfl (by kernel_rfl) (fun K hK => ?_)
    go_simp
    refine (hWo.out _ hk11).mono ?_; rintro e wa ⟨va, rfl, ma⟩
    obtain ⟨Aa, ca, rfl, ea, hca, _⟩ := ma.shape ndE_length
    go_wp2_with fail
    refine hK.out _ _ (KP.out _ ((Only.refl _ _).drew.trans ma.only)) (fun hHeld => ?_)
    clear hK K
    refine held_step 4 rfl (by kernel_rfl) (fun K hK => ?_)
    go_simp
    refine (hWi.out wa Aa ca ea hca).mono ?_; rintro e wb ⟨vb, rfl, mb⟩
    go_wp2_with fail
    refine hK.out _ _ (KP.out _ (((Only.refl _ _).drew.trans ma.only).trans mb.only)) (fun hHeld => ?_)
    clear hK K
    refine held_take 5 (vb) rfl (by kernel_rfl) (by kernel_rfl) (by kernel_rfl) (fun _ _ _ h => h) hHeld (Or.inl ⟨by rfl, fun w' hSw => by (try dsimp only at hSw); (try subst hSw); go_simp⟩) ?_
    simp only [Act.put, List.setIfInBounds_toArray, List.set_cons_zero, List.set_cons_succ]
    refine wpAnyH_done (by kernel_rfl) ?_ _
    clear hHeld
    have M := Mine.from (hk11.trans ma.only) mb
    clear KP ma mb ea hca K10 hk11
    have honly := M.only
    obtain ⟨Ab, cb, rfl, eb, hcb2, _⟩ := M.shape ndE_length
    replace M := Lib.hid M
    replace eb := Lib.hid eb
    go_wp2_with fail
    go_loopw [20] (fun a wr => ∃ i : Nat, i ≤ ot.length ∧ a = .int .i64 i ∧ Hid (∀ j x, j < i → ot[j]? = some x → (dpR ot 7 x).getD 99 ≤ 6) ∧ Only [] wb wr) (fun a _ => ot.length - (intOf a).toNat)
    case atStart => exact ⟨0, by omega, rfl, fun j x hj _ => by omega, Only.refl _ _⟩
    case round =>
      obtain ⟨i, hi, rfl, hI, hki⟩ := hrel
      by_cases hil : i < ot.length
      · have hiI : (i : Int) < (ot.length : Int) := by omega
        have hxi : ot[i]? = some ot[i] := List.getElem?_eq_getElem hil
        have hD := rdepth_any _ Ab cb ot i ot[i] hxi (eb.out.kept hki (by simp)) (by omega)
        generalize ot[i] = xx at *
        have hdv := hdeep.out
        generalize hdd : (dpR ot 7 xx).getD 99 = dd at *
        by_cases hd6 : dd ≤ 6
        · have hnx : Hid (∀ j x, j < i + 1 → ot[j]? = some x → (dpR ot 7 x).getD 99 ≤ 6) := fun j x hj hx => by
            by_cases e : j = i
            · subst e; rw [hxi] at hx; injection hx with hx; rw [← hx, hdd]; exact hd6
            · exact hI.out j x (by omega) hx
          have hdI : ¬ (6 : Int) < (dd : Int) := by omega
          replace hD := Lib.hid hD
          replace hxi := Lib.hid hxi
          replace hdd := Lib.hid hdd
          clear hdv
          go_wp2_with fail
          refine hD.out.mono ?_; rintro e wc ⟨rfl, kc⟩
          go_wp2_with fail
          go_roundw
          case rel => exact ⟨i + 1, by omega, by go_num, hnx, hki.trans kc⟩
          case measure => simp [intOf]; omega
        · have hr : R = ([], 9) := by
            rw [hr3.out, if_pos]
            apply Decidable.byContradiction
            intro hno
            have := (hdv.2 (by have := hnq.out; omega)) xx (List.mem_of_getElem? hxi)
            rw [hdd] at this
            exact hd6 this
          have hdI : (6 : Int) < (dd : Int) := by omega
          subst hr
          replace hD := Lib.hid hD
          replace hxi := Lib.hid hxi
          replace hdd := Lib.hid hdd
          clear hdv
          go_wp2_with fail
          refine hD.out.mono ?_; rintro e wc ⟨rfl, kc⟩
          go_wp2
          go_ret2
          exact PairAns.no ((honly.trans hki).trans kc)
      · have hr : R = (ot, 0) := by
          rw [hr3.out, if_neg, hot.out]
          have := hdeep.out.1 (fun x hx => by
            obtain ⟨j, hj⟩ := List.mem_iff_getElem?.1 hx
            exact hI.out j x (by have := (List.getElem?_eq_some_iff.1 hj).1; omega) hj)
          have := hnq.out
          omega
        have hiI : ¬ (i : Int) < (ot.length : Int) := by omega
        subst hr
        have hmf := M.out.keep hki
        replace hmf := Lib.hid hmf
        go_wp2
        go_ret2
        exact ⟨_, rfl, hmf.out⟩
  · have hdb : (y0 != n1) = true := by simpa using hdp
    by_cases h12 : 12 ≤ kn
    · have hr : R = ([], 16) := by rw [hgen2.out, if_pos ⟨hdp, h12⟩]
      have h12b : ((kn : Int) == 12) = true := by simp; omega
      subst hr
      replace hdp := Lib.hid hdp
      go_wp2_with fail
      go_quiet (first | (go_at_call 36; refine Calls.quiet_of_same (hKs.out _ (by first | exact hk7 | exact hk7.drewN _ | exact hk7.drew))))
      go_wp2
      go_ret2
      exact PairAns.no (hk7.drewN _)
    · have h12b : ((kn : Int) == 12) = false := by rw [beq_eq_false_iff_ne]; omega
      have hr3 : Hid (R = if 6 < nb.length + hgtN l ⟨n0, n1, n2, n3, n4⟩ then ([], 9) else (l.set (posN l n0) ⟨n0, y0, nm, n3, n4⟩, 0)) := Lib.hid (by rw [hgen2.out, if_neg (fun e => h12 e.2)])
      replace hdp := Lib.hid hdp
      go_wp2_with fail
      go_quiet (first | (go_at_call 36; refine Calls.quiet_of_same (hKs.out _ (by first | exact hk7 | exact hk7.drewN _ | exact hk7.drew))))
      go_wp2_with (refine wpList_store_nd ⟨n0, n1, n2, n3, n4⟩ zeroN rfl _ _ rfl w7.heap.size rfl rfl (Bx.zero _) ?_
                   intro w9 b9 k9
                   have K9 : Only [] w w9 := ((hk7.drewN _).alloc _).at0 k9 hg7
                   obtain ⟨cy9, _, _, _, _⟩ := hcy.out _ K9
                   obtain ⟨e0, e1, e2, e3, e4⟩ := Bx.cells b9
                   have f1 := Blk.free b9 1
                   have f2 := Blk.free b9 2
                   (try simp only at e0 e1 e2 e3 e4)
                   replace b9 := Lib.hid b9
                   clear cy0 cn0 cn1 cn2 cn3 cn4)
      have b10 : Bx ((w9.setCell ⟨w7.heap.size, 1, none⟩ (.int .u32 y0)).setCell ⟨w7.heap.size, 2, none⟩ (.string (strOf nm))) w7.heap.size ⟨n0, y0, nm, n3, n4⟩ := by
        have := Blk.set (Blk.set b9.out 1 (.int .u32 y0)) 2 (.string (strOf nm))
        show Blk _ _ _ (ndA _)
        simpa [ndA] using this
      have K10 : Only [] w ((w9.setCell ⟨w7.heap.size, 1, none⟩ (.int .u32 y0)).setCell ⟨w7.heap.size, 2, none⟩ (.string (strOf nm))) := (K9.setCell (.inr hg7) _).setCell (.inr hg7) _
      clear cy9 e0 e1 e2 e3 e4 f1 f2 K9 b9 k9
      generalize ((w9.setCell ⟨w7.heap.size, 1, none⟩ (.int .u32 y0)).setCell ⟨w7.heap.size, 2, none⟩ (.string (strOf nm))) = w10 at *
      generalize w7.heap.size = gx at *
      have KP : Hid (∀ w', Only [] w10 w' → w'.cell? ⟨gx, 0, none⟩ = some (.int .u32 n0) ∧ w'.cell? ⟨gx, 1, none⟩ = some (.int .u32 y0) ∧ w'.cell? ⟨gx, 2, none⟩ = some (.string (strOf nm)) ∧ w'.cell? ⟨gx, 3, none⟩ = some (.bool n3) ∧ w'.cell? ⟨gx, 4, none⟩ = some (.int .u32 n4)) := fun w' kk => (b10.kept kk (by simp)).cells
      clear b10
      refine wp_region_held_drew (S := fun w' => w'.cell? ⟨gx, 0, none⟩ = some (.int .u32 n0) ∧ w'.cell? ⟨gx, 1, none⟩ = some (.int .u32 y0) ∧ w'.cell? ⟨gx, 2, none⟩ = some (.string (strOf nm)) ∧ w'.cell? ⟨gx, 3, none⟩ = some (.bool n3) ∧ w'.cell? ⟨gx, 4, none⟩ = some (.int .u32 n4)) (by kernel_rfl) (KP.out _ (Only.refl _ _).drew) (fun hHeld => ?_)
      refine held_take 0 (.slice (some ⟨g, o', none⟩) l.length c) rfl (by kernel_rfl) (by kernel_rfl) (by kernel_rfl) (fun _ _ _ h => h) hHeld (Or.inl ⟨by rfl, fun w' hSw => by (try dsimp only at hSw); (try subst hSw); go_simp⟩) ?_
      simp only [Act.put, List.setIfInBounds_toArray, List.set_cons_zero, List.set_cons_succ]
      refine held_take 1 (.int .i64 k) rfl (by kernel_rfl) (by kernel_rfl) (by kernel_rfl) (fun _ _ _ h => h) hHeld (Or.inl ⟨by rfl, fun w' hSw => by (try dsimp only at hSw); (try subst hSw); go_simp⟩) ?_
      simp only [Act.put, List.setIfInBounds_toArray, List.set_cons_zero, List.set_cons_succ]
      refine held_take 3 (.agg #[.int .u32 n0, .int .u32 y0, .string (strOf nm), .bool n3, .int .u32 n4]) rfl (by kernel_rfl) (by kernel_rfl) (by kernel_rfl) (fun _ _ _ h => h) hHeld (Or.inl ⟨by rfl, fun w' hSw => by (try dsimp only at hSw); (try subst hSw); go_simp⟩) ?_
      simp only [Act.put, List.setIfInBounds_toArray, List.set_cons_zero, List.set_cons_succ]
      have hk11 := K10.drew
      refine held_step 2 rfl (by kernel_rfl) (fun K hK => ?_)
      go_simp
      refine (hWo.out _ hk11).mono ?_; rintro e wa ⟨va, rfl, ma⟩
      obtain ⟨Aa, ca, rfl, ea, hca, _⟩ := ma.shape ndE_length
      go_wp2_with fail
      refine hK.out _ _ (KP.out _ ((Only.refl _ _).drew.trans ma.only)) (fun hHeld => ?_)
      clear hK K
      refine held_step 4 rfl (by kernel_rfl) (fun K hK => ?_)
      go_simp
      refine (hWi.out wa Aa ca ea hca).mono ?_; rintro e wb ⟨vb, rfl, mb⟩
      go_wp2_with fail
      refine hK.out _ _ (KP.out _ (((Only.refl _ _).drew.trans ma.only).trans mb.only)) (fun hHeld => ?_)
      clear hK K
      refine held_take 5 (vb) rfl (by kernel_rfl) (by kernel_rfl) (by kernel_rfl) (fun _ _ _ h => h) hHeld (Or.inl ⟨by rfl, fun w' hSw => by (try dsimp only at hSw); (try subst hSw); go_simp⟩) ?_
      simp only [Act.put, List.setIfInBounds_toArray, List.set_cons_zero, List.set_cons_succ]
      refine wpAnyH_done (by kernel_rfl) ?_ _
      clear hHeld
      have M := Mine.from (hk11.trans ma.only) mb
      clear KP ma mb ea hca K10 hk11
      have honly := M.only
      obtain ⟨Ab, cb, rfl, eb, hcb2, _⟩ := M.shape ndE_length
      replace M := Lib.hid M
      replace eb := Lib.hid eb
      go_wp2_with fail
      go_loopw [20] (fun a wr => ∃ i : Nat, i ≤ ot.length ∧ a = .int .i64 i ∧ Hid (∀ j x, j < i → ot[j]? = some x → (dpR ot 7 x).getD 99 ≤ 6) ∧ Only [] wb wr) (fun a _ => ot.length - (intOf a).toNat)
      case atStart => exact ⟨0, by omega, rfl, fun j x hj _ => by omega, Only.refl _ _⟩
      case round =>
        obtain ⟨i, hi, rfl, hI, hki⟩ := hrel
        by_cases hil : i < ot.length
        · have hiI : (i : Int) < (ot.length : Int) := by omega
          have hxi : ot[i]? = some ot[i] := List.getElem?_eq_getElem hil
          have hD := rdepth_any _ Ab cb ot i ot[i] hxi (eb.out.kept hki (by simp)) (by omega)
          generalize ot[i] = xx at *
          have hdv := hdeep.out
          generalize hdd : (dpR ot 7 xx).getD 99 = dd at *
          by_cases hd6 : dd ≤ 6
          · have hnx : Hid (∀ j x, j < i + 1 → ot[j]? = some x → (dpR ot 7 x).getD 99 ≤ 6) := fun j x hj hx => by
              by_cases e : j = i
              · subst e; rw [hxi] at hx; injection hx with hx; rw [← hx, hdd]; exact hd6
              · exact hI.out j x (by omega) hx
            have hdI : ¬ (6 : Int) < (dd : Int) := by omega
            replace hD := Lib.hid hD
            replace hxi := Lib.hid hxi
            replace hdd := Lib.hid hdd
            clear hdv
            go_wp2_with fail
            refine hD.out.mono ?_; rintro e wc ⟨rfl, kc⟩
            go_wp2_with fail
            go_roundw
            case rel => exact ⟨i + 1, by omega, by go_num, hnx, hki.trans kc⟩
            case measure => simp [intOf]; omega
          · have hr : R = ([], 9) := by
              rw [hr3.out, if_pos]
              apply Decidable.byContradiction
              intro hno
              have := (hdv.2 (by have := hnq.out; omega)) xx (List.mem_of_getElem? hxi)
              rw [hdd] at this
              exact hd6 this
            have hdI : (6 : Int) < (dd : Int) := by omega
            subst hr
            replace hD := Lib.hid hD
            replace hxi := Lib.hid hxi
            replace hdd := Lib.hid hdd
            clear hdv
            go_wp2_with fail
            refine hD.out.mono ?_; rintro e wc ⟨rfl, kc⟩
            go_wp2
            go_ret2
            exact PairAns.no ((honly.trans hki).trans kc)
        · have hr : R = (ot, 0) := by
            rw [hr3.out, if_neg, hot.out]
            have := hdeep.out.1 (fun x hx => by
              obtain ⟨j, hj⟩ := List.mem_iff_getElem?.1 hx
              exact hI.out j x (by have := (List.getElem?_eq_some_iff.1 hj).1; omega) hj)
            have := hnq.out
            omega
          have hiI : ¬ (i : Int) < (ot.length : Int) := by omega
          subst hr
          have hmf := M.out.keep hki
          replace hmf := Lib.hid hmf
          go_wp2
          go_ret2
          exact ⟨_, rfl, hmf.out⟩
end Go.Proofs.YteiekfccfddmjaaDoor
