/- Rename, Resize, by the program. -/
import Derived.Test.YteiekfccfddmjaaDoorMk10
import Derived.Test.YteiekfccfddmjaaDoorCon10
namespace Go.Proofs.YteiekfccfddmjaaDoor
open Go.RowKit

theorem encs_cons (x : Nd) (l : List Nd) : encs ndE (x :: l) = .int .u32 x.id :: .int .u32 x.par :: .string (strOf x.name) :: .bool x.dir :: .int .u32 x.size :: encs ndE l := by simp [encs, ndE]
theorem nds_move : ∀ (l : List Nd) (i : Nat) (x : Nd) (p : Int) (s : List UInt8), l[i]? = some x → ((encs ndE l).set (i * 5 + 1) (.int .u32 p)).set (i * 5 + 2) (.string (strOf s)) = encs ndE (l.set i { x with par := p, name := s })
  | [], i, x, p, s, h => by simp at h
  | y :: r, 0, x, p, s, h => by
    simp only [List.getElem?_cons_zero, Option.some.injEq] at h
    subst h
    simp [encs_cons]
  | y :: r, i + 1, x, p, s, h => by
    have ih := nds_move r i x p s (by simpa using h)
    have e1 : (i + 1) * 5 + 1 = i * 5 + 1 + 1 + 1 + 1 + 1 + 1 := by omega
    have e2 : (i + 1) * 5 + 2 = i * 5 + 2 + 1 + 1 + 1 + 1 + 1 := by omega
    rw [show (y :: r).set (i + 1) { x with par := p, name := s } = y :: r.set i { x with par := p, name := s } from rfl, encs_cons, encs_cons, ← ih, e1, e2]
    simp only [List.set_cons_succ]
theorem nds_size : ∀ (l : List Nd) (i : Nat) (x : Nd) (p : Int), l[i]? = some x → (encs ndE l).set (i * 5 + 4) (.int .u32 p) = encs ndE (l.set i { x with size := p })
  | [], i, x, p, h => by simp at h
  | y :: r, 0, x, p, h => by
    simp only [List.getElem?_cons_zero, Option.some.injEq] at h
    subst h
    simp [encs_cons]
  | y :: r, i + 1, x, p, h => by
    have ih := nds_size r i x p (by simpa using h)
    have e1 : (i + 1) * 5 + 4 = i * 5 + 4 + 1 + 1 + 1 + 1 + 1 := by omega
    rw [show (y :: r).set (i + 1) { x with size := p } = y :: r.set i { x with size := p } from rfl, encs_cons, encs_cons, ← ih, e1]
    simp only [List.set_cons_succ]
theorem Mine.moved {w w1 : World} {g n c i : Nat} {l : List Nd} {x : Nd} (h : Mine ndE 5 28 w w1 (.slice (some ⟨g, 0, none⟩) n c) l) (hx : l[i]? = some x) (p : Int) (s : List UInt8) :
    Mine ndE 5 28 w ((w1.setCell ⟨g, i * 5 + 1, none⟩ (.int .u32 p)).setCell ⟨g, i * 5 + 2, none⟩ (.string (strOf s))) (.slice (some ⟨g, 0, none⟩) n c) (l.set i { x with par := p, name := s }) := by
  have hg := h.new g rfl
  have hn : n = l.length := by
    rcases h.own.2 with ⟨h0, _⟩ | ⟨g', cap, cur, hv, _⟩
    · cases h0
    · injection hv
  subst hn
  have h1 := ownsRow_set (i := i * 5 + 2) (ownsRow_set (i := i * 5 + 1) h.own (.int .u32 p)) (.string (strOf s))
  rw [nds_move l i x p s hx] at h1
  refine ⟨?_, h.new, (h.only.setCell (.inr hg) _).setCell (.inr hg) _⟩
  rwa [List.length_set]
theorem Mine.sized {w w1 : World} {g n c i : Nat} {l : List Nd} {x : Nd} (h : Mine ndE 5 28 w w1 (.slice (some ⟨g, 0, none⟩) n c) l) (hx : l[i]? = some x) (p : Int) :
    Mine ndE 5 28 w (w1.setCell ⟨g, i * 5 + 4, none⟩ (.int .u32 p)) (.slice (some ⟨g, 0, none⟩) n c) (l.set i { x with size := p }) := by
  have hg := h.new g rfl
  have hn : n = l.length := by
    rcases h.own.2 with ⟨h0, _⟩ | ⟨g', cap, cur, hv, _⟩
    · cases h0
    · injection hv
  subst hn
  have h1 := ownsRow_set (i := i * 5 + 4) h.own (.int .u32 p)
  rw [nds_size l i x p hx] at h1
  refine ⟨?_, h.new, h.only.setCell (.inr hg) _⟩
  rwa [List.length_set]

/-- The tree with another size. -/
def resizeR (t : List Nd) (id size : Int) : List Nd × Int :=
  if ¬ Tree t then ([], 1) else
  match getI t id with
  | none => ([], 7)
  | some x => if x.dir = true then ([], 11) else if 1024 < size then ([], 15) else (t.set (posN t id) { x with size := size }, 0)
set_option maxRecDepth 100000 in
set_option maxHeartbeats 4000000 in
theorem resize_any (w : World) (A : Option Addr) (c : Nat) (l : List Nd) (id size : Int) (hb : Els ndE 5 w A l) (hc : l.length ≤ c) (hl : l.length ≤ 1000) :
    Calls Tryd.prog 29 #[.slice A l.length c, .int .u32 id, .int .u32 size] w fun e w' => PairAns w w' e (resizeR l id size).1 (.int .i64 (resizeR l id size).2) := by
  have hR := right_bool w A c l hb (by omega) hc
  obtain ⟨R, hRR⟩ : ∃ R, R = resizeR l id size := ⟨_, rfl⟩
  rw [← hRR]
  unfold resizeR at hRR
  by_cases hT : Tree l
  rotate_left
  · have hr : R = ([], 1) := by rw [hRR, if_pos hT]
    have hR := hR false (bool_no hT)
    subst hr
    replace hR := Lib.hid hR
    clear hRR hT
    go_enter Tryd.func29, Tryd.ntmps29
    go_wp2_with fail
    refine hR.out.mono ?_; rintro e w1 ⟨rfl, k1⟩
    go_wp2
    go_ret2
    exact PairAns.no k1
  rw [if_neg (fun h => h hT)] at hRR
  have hR := hR true (bool_yes hT)
  have hne : l ≠ [] := fun q => by have := hT.head; rw [q] at this; cases this
  have hP := fun W (k : Only [] w W) => place_any W A c l id (hb.kept k (by simp)) hT.rise (by omega)
  have hpos : ∀ x, getI l id = some x → l[posN l id]? = some x := fun x h => getI_pos hT.rise h
  have hCl := fun W (k : Only [] w W) => clone_any W A c l (hb.kept k (by simp)) hl hne
  generalize getI l id = go at *
  generalize posN l id = po at *
  replace hR := Lib.hid hR
  replace hCl := Lib.hid hCl
  clear hT
  cases go with
  | none =>
    simp only [Option.isSome_none] at hP hRR
    subst hRR
    replace hP := Lib.hid hP
    clear hpos
    go_enter Tryd.func29, Tryd.ntmps29
    go_wp2_with fail
    refine hR.out.mono ?_; rintro e w1 ⟨rfl, k1⟩
    go_wp2_with fail
    refine (hP.out _ k1).mono ?_; rintro e w2 ⟨rfl, k2⟩
    go_wp2
    go_ret2
    exact PairAns.no (k1.trans k2)
  | some x =>
    have hx := hpos x rfl
    have hlt := (List.getElem?_eq_some_iff.1 hx).1
    have hxe : l[po] = x := (List.getElem?_eq_some_iff.1 hx).2
    obtain ⟨g, o, rfl, hg, hat⟩ := hb.get hlt
    have hcl := fun W (k : Only [] w W) => (nds_at (hat.kept k (by simp)) hlt).2.2.2.1
    rw [hxe] at hcl
    have hpI : (po : Int) < (l.length : Int) := by omega
    simp only [Option.isSome_some] at hP hRR
    replace hP := Lib.hid hP
    replace hcl := Lib.hid hcl
    replace hxe := Lib.hid hxe
    clear hpos hat
    cases hd : x.dir with
    | true =>
      rw [if_pos hd] at hRR
      rw [hd] at hcl
      subst hRR
      replace hx := Lib.hid hx
      replace hd := Lib.hid hd
      go_enter Tryd.func29, Tryd.ntmps29
      go_wp2_with fail
      refine hR.out.mono ?_; rintro e w1 ⟨rfl, k1⟩
      go_wp2_with fail
      refine (hP.out _ k1).mono ?_; rintro e w2 ⟨rfl, k2⟩
      have hc3 := hcl.out _ (k1.trans k2)
      go_wp2
      go_ret2
      exact PairAns.no (k1.trans k2)
    | false =>
      rw [if_neg (by rw [hd]; simp)] at hRR
      rw [hd] at hcl
      by_cases hs : 1024 < size
      · rw [if_pos hs] at hRR
        subst hRR
        replace hx := Lib.hid hx
        replace hd := Lib.hid hd
        go_enter Tryd.func29, Tryd.ntmps29
        go_wp2_with fail
        refine hR.out.mono ?_; rintro e w1 ⟨rfl, k1⟩
        go_wp2_with fail
        refine (hP.out _ k1).mono ?_; rintro e w2 ⟨rfl, k2⟩
        have hc3 := hcl.out _ (k1.trans k2)
        go_wp2
        go_ret2
        exact PairAns.no (k1.trans k2)
      · rw [if_neg hs] at hRR
        replace hx := Lib.hid hx
        replace hd := Lib.hid hd
        replace hRR := Lib.hid hRR
        go_enter Tryd.func29, Tryd.ntmps29
        go_wp2_with fail
        refine hR.out.mono ?_; rintro e w1 ⟨rfl, k1⟩
        go_wp2_with fail
        refine (hP.out _ k1).mono ?_; rintro e w2 ⟨rfl, k2⟩
        have hk2 := k1.trans k2
        have hc3 := hcl.out _ hk2
        go_wp2_with fail
        refine (hCl.out _ hk2).mono ?_; rintro e w3 ⟨v, rfl, hm⟩
        have hmw := Mine.from hk2 hm
        obtain ⟨g2, c2, cur, T, rfl, hg2, hb2, hc2, _, _, _, hat2⟩ := hmw.row hne
        have d4 := (nds_at hat2 hlt).2.2.2.2
        rw [Nat.zero_add] at d4
        have f4 := hb2.free (po * 5 + 4)
        have hmf := hmw.sized hx.out size
        have hr' := hRR.out
        subst hr'
        replace hmf := Lib.hid hmf
        clear hc3 hat2 hb2 hm hmw
        go_wp2
        go_ret2
        exact ⟨_, rfl, hmf.out⟩

/-- The tree with one elsewhere. -/
def renameR (t : List Nd) (a b : List UInt8) : List Nd × Int :=
  if errOf t a ≠ 0 then ([], errOf t a) else
  if (splitL b).isSome = false then ([], 9) else
  if (walkR t rootN (namesOf t a)).2 ≠ 0 then ([], (walkR t rootN (namesOf t a)).2) else
  if (walkR t rootN (namesOf t a)).1.id = 1 then ([], 21) else
  if (spotR t ((splitL b).getD [])).2.2 ≠ 0 then ([], (spotR t ((splitL b).getD [])).2.2) else
  if insB t (walkR t rootN (namesOf t a)).1.id (spotR t ((splitL b).getD [])).1.id = true then ([], 1) else
  match kidN t (spotR t ((splitL b).getD [])).1.id (spotR t ((splitL b).getD [])).2.1 with
  | some o => if o.id = (walkR t rootN (namesOf t a)).1.id then (t, 0) else ([], 8)
  | none => if (spotR t ((splitL b).getD [])).1.id ≠ (walkR t rootN (namesOf t a)).1.par ∧ 12 ≤ kidsN t (spotR t ((splitL b).getD [])).1.id then ([], 16) else
    if 6 < ((splitL b).getD []).length + hgtN t (walkR t rootN (namesOf t a)).1 then ([], 9) else
    (t.set (posN t (walkR t rootN (namesOf t a)).1.id) { (walkR t rootN (namesOf t a)).1 with par := (spotR t ((splitL b).getD [])).1.id, name := (spotR t ((splitL b).getD [])).2.1 }, 0)
theorem spotR_mem {t : List Nd} (hT : Tree t) (names : List (List UInt8)) (h : (spotR t names).2.2 = 0) : (spotR t names).1 ∈ t ∧ (spotR t names).1.dir = true := by
  rcases List.eq_nil_or_concat names with rfl | ⟨q, s, rfl⟩
  · rw [spotR_nil] at h; cases h
  · rw [List.concat_eq_append] at h ⊢
    rw [spotR_last] at h ⊢
    split at h
    · rename_i h0
      rw [if_pos h0]
      split at h
      · rename_i h1
        rw [if_pos h1]
        exact ⟨walkR_mem hT q rootN hT.root_mem h0, h1⟩
      · cases h
    · rename_i h0
      exact absurd h h0
theorem hgtN_le {t : List Nd} (hT : Tree t) (n : Nd) : hgtN t n ≤ 6 := by
  have : ∀ (l : List Nd) (m : Nat), (∀ x ∈ l, x ∈ t) → m ≤ 6 → l.foldl (hgtF t n) m ≤ 6 := by
    intro l
    induction l with
    | nil => intro m _ h; exact h
    | cons a r ih =>
      intro m hm h
      rw [List.foldl_cons]
      refine ih _ (fun x hx => hm x (by simp [hx])) ?_
      unfold hgtF
      split
      · have := depN_six hT (hm a (by simp)); omega
      · exact h
  exact this t 0 (fun x hx => hx) (by omega)
theorem wrap_add (a b : Nat) (h : a + b ≤ 1048576) : IntKind.i64.wrap ((a : Int) + (b : Int)) = (a : Int) + (b : Int) := by simp only [IntKind.wrap, IntKind.bits, IntKind.signed]; simp; omega

set_option maxRecDepth 100000 in
set_option maxHeartbeats 8000000 in
theorem rename_any (w : World) (A : Option Addr) (c : Nat) (l : List Nd) (a b : List UInt8) (hb : Els ndE 5 w A l) (hc : l.length ≤ c) (hl : l.length ≤ 1000) (hpa : a.length ≤ 1048576) (hpb : b.length ≤ 1048576) :
    Calls Tryd.prog 31 #[.slice A l.length c, .string (strOf a), .string (strOf b)] w fun e w' => PairAns w w' e (renameR l a b).1 (.int .i64 (renameR l a b).2) := by
  have hC := checked_any w A c l a hb hc (by omega) hpa
  have hSpl := fun W => split_any W b hpb
  obtain ⟨R, hR⟩ : ∃ R, R = renameR l a b := ⟨_, rfl⟩
  rw [← hR]
  unfold renameR at hR
  have hET : errOf l a = 0 → Tree l := fun h => (errOf_tree h).1
  have hnl := namesOf_le l a
  have hbl : ∀ t, splitL b = some t → t.length ≤ 6 := fun t h => splitL_le h
  have hW := fun W B d (k : Only [] w W) (h : errOf l a = 0) hB => walk_any W A B c d l rootN (namesOf l a) (hb.kept k (by simp)) (by omega) (hET h).get0 hB (by omega)
  have hSp := fun W B d (k : Only [] w W) (h : errOf l a = 0) (hq : ((splitL b).getD []).length ≤ 6) hB hd => spot_any W A B c d l ((splitL b).getD []) (hb.kept k (by simp)) (by omega) (hET h).get0 hB (by omega) hd
  have hnm : errOf l a = 0 → (walkR l rootN (namesOf l a)).2 = 0 → (walkR l rootN (namesOf l a)).1 ∈ l := fun h h2 => walkR_mem (hET h) _ _ (hET h).root_mem h2
  have hdm : errOf l a = 0 → (spotR l ((splitL b).getD [])).2.2 = 0 → (spotR l ((splitL b).getD [])).1 ∈ l := fun h h2 => (spotR_mem (hET h) _ h2).1
  generalize errOf l a = er at *
  generalize namesOf l a = ns at *
  generalize walkR l rootN ns = N at *
  obtain ⟨n, en⟩ := N
  have htl6 : ((splitL b).getD []).length ≤ 6 := by
    cases h : splitL b with
    | none => simp
    | some t => exact hbl t h
  generalize hsb : splitL b = sb at *
  obtain ⟨tl, htl⟩ : ∃ tl, tl = sb.getD [] := ⟨_, rfl⟩
  rw [← htl] at hR hSpl hSp hdm htl6
  generalize spotR l tl = D at *
  obtain ⟨d, nm, ed⟩ := D
  simp only at hR hW hSp hnm hdm
  have hKd := fun W (k : Only [] w W) i s => child_any W A c l i s (hb.kept k (by simp)) (by omega)
  have hFl := fun W (k : Only [] w W) i => full_any W A c l i (hb.kept k (by simp)) (by omega)
  have hPl := fun W (k : Only [] w W) (h : er = 0) i => place_any W A c l i (hb.kept k (by simp)) (hET h).rise (by omega)
  have hne0 : er = 0 → l ≠ [] := fun h q => by have := (hET h).head; rw [q] at this; cases this
  have hCl := fun W (k : Only [] w W) (h : er = 0) => clone_any W A c l (hb.kept k (by simp)) hl (hne0 h)
  have hCt := fun W (k : Only [] w W) (h : er = 0) dir i hi => contains_any W A c l dir i (hb.kept k (by simp)) (by omega) (hET h) hi
  have hHt := fun W (k : Only [] w W) (h : er = 0) (hn : n ∈ l) => height_any W A c l n (hb.kept k (by simp)) hl (hET h) hn
  have hh6 : er = 0 → hgtN l n ≤ 6 := fun h => hgtN_le (hET h) n
  have hget : er = 0 → en = 0 → getI l n.id = some n ∧ l[posN l n.id]? = some n := fun h h2 => by
    have q := (hET h).get (hnm h h2)
    exact ⟨q, getI_pos (hET h).rise q⟩
  obtain ⟨n0, n1, n2, n3, n4⟩ := n
  obtain ⟨d0, d1, d2, d3, d4⟩ := d
  have hvn : ndV ⟨n0, n1, n2, n3, n4⟩ = .agg #[.int .u32 n0, .int .u32 n1, .string (strOf n2), .bool n3, .int .u32 n4] := rfl
  have hvd : ndV ⟨d0, d1, d2, d3, d4⟩ = .agg #[.int .u32 d0, .int .u32 d1, .string (strOf d2), .bool d3, .int .u32 d4] := rfl
  rw [hvn] at hHt
  simp only at hR
  generalize hgtN l ⟨n0, n1, n2, n3, n4⟩ = hg at *
  replace hC := Lib.hid hC
  replace hSpl := Lib.hid hSpl
  replace hR := Lib.hid hR
  replace hW := Lib.hid hW
  replace hSp := Lib.hid hSp
  replace hnm := Lib.hid hnm
  replace hdm := Lib.hid hdm
  replace hKd := Lib.hid hKd
  replace hFl := Lib.hid hFl
  replace hPl := Lib.hid hPl
  replace hCl := Lib.hid hCl
  replace hCt := Lib.hid hCt
  replace hHt := Lib.hid hHt
  replace hh6 := Lib.hid hh6
  replace hget := Lib.hid hget
  replace hET := Lib.hid hET
  replace hne0 := Lib.hid hne0
  replace hbl := Lib.hid hbl
  replace hsb := Lib.hid hsb
  replace htl := Lib.hid htl
  go_enter Tryd.func31, Tryd.ntmps31
  go_wp2_with fail
  refine hC.out.mono ?_; rintro e w1 ⟨B, cB, rfl, h1, h2, k1⟩
  by_cases he : er = 0
  rotate_left
  · have hr : R = ([], er) := by rw [hR.out, if_pos he]
    have heb : (er != 0) = true := by simpa using he
    subst hr
    go_wp2
    go_ret2
    exact PairAns.no k1
  subst he
  have hR := hR.out
  rw [if_neg (by simp)] at hR
  replace hR := Lib.hid hR
  go_wp2_with fail
  refine (hSpl.out _).mono ?_; rintro e w2 ⟨B2, cB2, rfl, h3, h4, k2⟩
  have hk2 := k1.trans k2
  cases hsq : sb.isSome with
  | false =>
    have hr : R = ([], 9) := by rw [hR.out, if_pos hsq]
    subst hr
    replace hsq := Lib.hid hsq
    simp only [Bool.false_eq_true, if_false]
    go_wp2
    go_ret2
    exact PairAns.no hk2
  | true =>
  have hR := hR.out
  rw [if_neg (by rw [hsq]; simp)] at hR
  replace hR := Lib.hid hR
  replace hsq := Lib.hid hsq
  try simp only [if_true]
  go_wp2_with fail
  refine (hW.out _ _ _ hk2 (by trivial) (h2.kept k2 (by simp))).mono ?_; rintro e w3 ⟨rfl, k3⟩
  have hk3 := hk2.trans k3
  rw [hvn]
  by_cases he : en = 0
  rotate_left
  · have hr : R = ([], en) := by rw [hR.out, if_pos he]
    have heb : (en != 0) = true := by simpa using he
    subst hr
    go_wp2
    go_ret2
    exact PairAns.no (hk3.alloc _)
  subst he
  have hR := hR.out
  rw [if_neg (by simp)] at hR
  replace hR := Lib.hid hR
  have hnml := hnm.out (by trivial) (by trivial)
  obtain ⟨hgi, hpn⟩ := hget.out (by trivial) (by trivial)
  try simp only at hgi hpn
  by_cases hn1 : n0 = 1
  · have hr : R = ([], 21) := by rw [hR.out, if_pos hn1]
    subst hr
    replace hnml := Lib.hid hnml
    replace hgi := Lib.hid hgi
    replace hpn := Lib.hid hpn
    go_wp2
    go_ret2
    exact PairAns.no (hk3.alloc _)
  have hR := hR.out
  rw [if_neg hn1] at hR
  replace hR := Lib.hid hR
  have hn1b : (n0 == 1) = false := by simpa using hn1
  replace hnml := Lib.hid hnml
  replace hgi := Lib.hid hgi
  replace hpn := Lib.hid hpn
  have bn := Bx.new w3 ⟨n0, n1, n2, n3, n4⟩
  simp only at bn
  have hk4 := hk3.alloc (.cells #[.int .u32 n0, .int .u32 n1, .string (strOf n2), .bool n3, .int .u32 n4] 28)
  have h4' : Els strE 1 (w3.alloc (.cells #[.int .u32 n0, .int .u32 n1, .string (strOf n2), .bool n3, .int .u32 n4] 28)) B2 tl := (h4.kept k3 (by simp)).kept ((Only.refl [] w3).alloc _) (by simp)
  have htlI : (tl.length : Int) ≤ 6 := by omega
  go_wp2_with fail
  refine (hSp.out _ _ _ hk4 (by trivial) htl6 h4' h3).mono ?_; rintro e w5 ⟨rfl, k5⟩
  have hk5 := hk4.trans k5
  have bn5 : Bx w5 w3.heap.size ⟨n0, n1, n2, n3, n4⟩ := bn.kept k5 (by simp)
  generalize w3.heap.size = gn at *
  clear bn hk4 h4' k5
  rw [hvd]
  by_cases he : ed = 0
  rotate_left
  · have hr : R = ([], ed) := by rw [hR.out, if_pos he]
    have heb : (ed != 0) = true := by simpa using he
    subst hr
    go_wp2
    go_ret2
    exact PairAns.no (hk5.alloc _)
  subst he
  have hR := hR.out
  rw [if_neg (by simp)] at hR
  replace hR := Lib.hid hR
  have bd := Bx.new w5 ⟨d0, d1, d2, d3, d4⟩
  simp only at bd
  have hk6 := hk5.alloc (.cells #[.int .u32 d0, .int .u32 d1, .string (strOf d2), .bool d3, .int .u32 d4] 28)
  have bn6 := bn5.alloc (.cells #[.int .u32 d0, .int .u32 d1, .string (strOf d2), .bool d3, .int .u32 d4] 28)
  go_wp2_with fail
  refine (hKd.out _ hk6 d0 nm).mono ?_; rintro e w7 ⟨rfl, k7⟩
  have hk7 := hk6.trans k7
  have bn7 : Bx w7 gn ⟨n0, n1, n2, n3, n4⟩ := bn6.kept k7 (by simp)
  have bd7 : Bx w7 w5.heap.size ⟨d0, d1, d2, d3, d4⟩ := bd.kept k7 (by simp)
  generalize w5.heap.size = gd at *
  clear bn5 bn6 bd hk5 hk6 k7
  obtain ⟨z0, z1, z2, z3, z4, hz⟩ : ∃ z0 z1 z2 z3 z4, ndV ((kidN l d0 nm).getD zeroN) = .agg #[.int .u32 z0, .int .u32 z1, .string z2, .bool z3, .int .u32 z4] ∧ (∀ o, kidN l d0 nm = some o → z0 = o.id) := ⟨_, _, _, _, _, rfl, fun o h => by rw [h]; rfl⟩
  obtain ⟨hz, hz0⟩ := hz
  rw [hz]
  replace hz := Lib.hid hz
  have bo := Bx.new w7 ⟨z0, z1, z2.data.toList, z3, z4⟩
  simp only [strOf_toList] at bo
  have bn8 := bn7.alloc (.cells #[.int .u32 z0, .int .u32 z1, .string z2, .bool z3, .int .u32 z4] 28)
  have bd8 := bd7.alloc (.cells #[.int .u32 z0, .int .u32 z1, .string z2, .bool z3, .int .u32 z4] 28)
  have hk8 := hk7.alloc (.cells #[.int .u32 z0, .int .u32 z1, .string z2, .bool z3, .int .u32 z4] 28)
  obtain ⟨p0, p1, p2, p3, p4⟩ := bn8.cells
  obtain ⟨q0, q1, q2, q3, q4⟩ := bd8.cells
  simp only at p0 p1 p2 p3 p4 q0 q1 q2 q3 q4
  have hdml := hdm.out (by trivial) (by trivial)
  replace hdml := Lib.hid hdml
  go_wp2_with fail
  refine (hCt.out _ hk8 (by trivial) n0 d0 ⟨_, hdml.out, rfl⟩).mono ?_; rintro e w9 ⟨rfl, k9⟩
  have hk9 := hk8.trans k9
  have bn9 : Bx w9 gn ⟨n0, n1, n2, n3, n4⟩ := bn8.kept k9 (by simp)
  have bd9 : Bx w9 gd ⟨d0, d1, d2, d3, d4⟩ := bd8.kept k9 (by simp)
  have bo9 := bo.kept k9 (by simp)
  generalize w7.heap.size = go at *
  clear bn8 bd8 bo bn7 bd7 hk7 hk8 k9 p0 p1 p2 p3 p4 q0 q1 q2 q3 q4
  cases hin : insB l n0 d0 with
  | true =>
    have hr : R = ([], 1) := by rw [hR.out, if_pos hin]
    subst hr
    replace hin := Lib.hid hin
    go_wp2
    go_ret2
    exact PairAns.no hk9
  | false =>
  have hR := hR.out
  rw [if_neg (by rw [hin]; simp)] at hR
  replace hin := Lib.hid hin
  obtain ⟨p0, p1, p2, p3, p4⟩ := bn9.cells
  obtain ⟨q0, q1, q2, q3, q4⟩ := bd9.cells
  obtain ⟨o0, o1, o2, o3, o4⟩ := bo9.cells
  simp only [strOf_toList] at p0 p1 p2 p3 p4 q0 q1 q2 q3 q4 o0 o1 o2 o3 o4
  cases hkid : kidN l d0 nm with
  | some y =>
    have hzy := hz0 y hkid
    rw [hkid] at hR
    simp only at hR
    simp only [Option.isSome_some]
    rw [← hzy] at hR
    replace hkid := Lib.hid hkid
    replace hz0 := Lib.hid hz0
    replace hzy := Lib.hid hzy
    by_cases hzn : z0 = n0
    · rw [if_pos hzn] at hR
      have hzb : (z0 != n0) = false := by simp [hzn]
      replace hzn := Lib.hid hzn
      subst hR
      go_wp2_with fail
      refine (hCl.out _ hk9 (by trivial)).mono ?_; rintro e w10 ⟨v, rfl, hm⟩
      have hmw := Mine.from hk9 hm
      replace hmw := Lib.hid hmw
      clear hm
      go_wp2
      go_ret2
      exact ⟨_, rfl, hmw.out⟩
    · rw [if_neg hzn] at hR
      have hzb : (z0 != n0) = true := by simpa using hzn
      replace hzn := Lib.hid hzn
      subst hR
      go_wp2
      go_ret2
      exact PairAns.no hk9
  | none =>
  rw [hkid] at hR
  simp only at hR
  simp only [Option.isSome_none]
  replace hkid := Lib.hid hkid
  replace hz0 := Lib.hid hz0
  clear o0 o1 o2 o3 o4 bo9
  have hh6' := hh6.out (by trivial)
  have hgI : (hg : Int) ≤ 6 := by omega
  by_cases hdp : d0 = n1
  · have hdpb : (d0 != n1) = false := by simp [hdp]
    rw [if_neg (fun h => h.1 hdp)] at hR
    replace hdp := Lib.hid hdp
    go_wp2_with fail
    refine (hHt.out _ hk9 (by trivial) hnml.out).mono ?_; rintro e w11 ⟨rfl, k11⟩
    have hk11 := hk9.trans k11
    have bn11 : Bx w11 gn ⟨n0, n1, n2, n3, n4⟩ := bn9.kept k11 (by simp)
    have bd11 : Bx w11 gd ⟨d0, d1, d2, d3, d4⟩ := bd9.kept k11 (by simp)
    clear p0 p1 p2 p3 p4 q0 q1 q2 q3 q4
    by_cases h6 : 6 < tl.length + hg
    · rw [if_pos h6] at hR
      have h6b : (6 : Int) < (tl.length : Int) + (hg : Int) := by omega
      subst hR
      go_wp2
      go_ret2
      exact PairAns.no hk11
    rw [if_neg h6] at hR
    have h6b : ¬ (6 : Int) < (tl.length : Int) + (hg : Int) := by omega
    obtain ⟨p0, p1, p2, p3, p4⟩ := bn11.cells
    simp only at p0 p1 p2 p3 p4
    go_wp2_with fail
    refine (hCl.out _ hk11 (by trivial)).mono ?_; rintro e w12 ⟨v, rfl, hm⟩
    have hmw := Mine.from hk11 hm
    have bn12 : Bx w12 gn ⟨n0, n1, n2, n3, n4⟩ := bn11.kept hm.only (by simp)
    have bd12 : Bx w12 gd ⟨d0, d1, d2, d3, d4⟩ := bd11.kept hm.only (by simp)
    clear p0 p1 p2 p3 p4
    obtain ⟨p0, p1, p2, p3, p4⟩ := bn12.cells
    simp only at p0 p1 p2 p3 p4
    obtain ⟨g2, c2, cur, T, rfl, hg2, hb2, hc2, _, _, _, hat2⟩ := hmw.row (hne0.out (by trivial))
    have hlt : posN l n0 < l.length := (List.getElem?_eq_some_iff.1 hpn.out).1
    have hgd2 : gd ≠ g2 := by
      have h1 := bd11.lt
      have h2 := hm.new g2 rfl
      omega
    have hPl0 := hPl.out _ hmw.only (by trivial) n0
    rw [hgi.out] at hPl0
    simp only [Option.isSome_some] at hPl0
    obtain ⟨po, hpo⟩ : ∃ po, po = posN l n0 := ⟨_, rfl⟩
    rw [← hpo] at hPl0 hlt hR
    have hpn' := hpn.out
    rw [← hpo] at hpn'
    replace hpn' := Lib.hid hpn'
    replace hPl0 := Lib.hid hPl0
    replace hR := Lib.hid hR
    replace hpo := Lib.hid hpo
    have hltI : (po : Int) < (l.length : Int) := by omega
    clear hm
    go_wp2_with fail
    refine hPl0.out.mono ?_; rintro e w13 ⟨rfl, k13⟩
    have hm13 := hmw.keep k13
    have hat13 := hat2.kept k13 (by simp)
    have hb13 := hb2.kept k13 (by simp)
    have bd13 : Bx w13 gd ⟨d0, d1, d2, d3, d4⟩ := bd12.kept k13 (by simp)
    have r1 := (nds_at hat13 hlt).2.1
    have r2 := (nds_at hat13 hlt).2.2.1
    rw [Nat.zero_add] at r1 r2
    have f1 := hb13.free (po * 5 + 1)
    have f2 := hb13.free (po * 5 + 2)
    have q0 := bd13.cells.1
    simp only at q0
    have hmf := hm13.moved hpn'.out d0 nm
    have hr' := hR.out
    subst hr'
    replace hmf := Lib.hid hmf
    clear hat2 hat13 hb2 hb13 hmw hm13 p0 p1 p2 p3 p4
    go_wp2
    go_ret2
    exact ⟨_, rfl, hmf.out⟩
  · have hdpb : (d0 != n1) = true := by simpa using hdp
    go_wp2_with fail
    refine (hFl.out _ hk9 d0).mono ?_; rintro e w10 ⟨rfl, k10⟩
    have hk10 := hk9.trans k10
    have bn10 : Bx w10 gn ⟨n0, n1, n2, n3, n4⟩ := bn9.kept k10 (by simp)
    have bd10 : Bx w10 gd ⟨d0, d1, d2, d3, d4⟩ := bd9.kept k10 (by simp)
    clear p0 p1 p2 p3 p4 q0 q1 q2 q3 q4 bn9 bd9 hk9 k10
    by_cases h12 : 12 ≤ kidsN l d0
    · rw [if_pos ⟨hdp, h12⟩] at hR
      have h12b : decide (12 ≤ kidsN l d0) = true := decide_eq_true h12
      rw [h12b]
      replace h12 := Lib.hid h12
      subst hR
      go_wp2
      go_ret2
      exact PairAns.no hk10
    rw [if_neg (fun h => h12 h.2)] at hR
    have h12b : decide (12 ≤ kidsN l d0) = false := decide_eq_false h12
    rw [h12b]
    replace h12 := Lib.hid h12
    replace h12b := Lib.hid h12b
    replace hdp := Lib.hid hdp
    obtain ⟨p0, p1, p2, p3, p4⟩ := bn10.cells
    obtain ⟨q0, q1, q2, q3, q4⟩ := bd10.cells
    simp only at p0 p1 p2 p3 p4 q0 q1 q2 q3 q4
    go_wp2_with fail
    refine (hHt.out _ hk10 (by trivial) hnml.out).mono ?_; rintro e w11 ⟨rfl, k11⟩
    have hk11 := hk10.trans k11
    have bn11 : Bx w11 gn ⟨n0, n1, n2, n3, n4⟩ := bn10.kept k11 (by simp)
    have bd11 : Bx w11 gd ⟨d0, d1, d2, d3, d4⟩ := bd10.kept k11 (by simp)
    clear p0 p1 p2 p3 p4 q0 q1 q2 q3 q4
    by_cases h6 : 6 < tl.length + hg
    · rw [if_pos h6] at hR
      have h6b : (6 : Int) < (tl.length : Int) + (hg : Int) := by omega
      subst hR
      go_wp2
      go_ret2
      exact PairAns.no hk11
    rw [if_neg h6] at hR
    have h6b : ¬ (6 : Int) < (tl.length : Int) + (hg : Int) := by omega
    obtain ⟨p0, p1, p2, p3, p4⟩ := bn11.cells
    simp only at p0 p1 p2 p3 p4
    go_wp2_with fail
    refine (hCl.out _ hk11 (by trivial)).mono ?_; rintro e w12 ⟨v, rfl, hm⟩
    have hmw := Mine.from hk11 hm
    have bn12 : Bx w12 gn ⟨n0, n1, n2, n3, n4⟩ := bn11.kept hm.only (by simp)
    have bd12 : Bx w12 gd ⟨d0, d1, d2, d3, d4⟩ := bd11.kept hm.only (by simp)
    clear p0 p1 p2 p3 p4
    obtain ⟨p0, p1, p2, p3, p4⟩ := bn12.cells
    simp only at p0 p1 p2 p3 p4
    obtain ⟨g2, c2, cur, T, rfl, hg2, hb2, hc2, _, _, _, hat2⟩ := hmw.row (hne0.out (by trivial))
    have hlt : posN l n0 < l.length := (List.getElem?_eq_some_iff.1 hpn.out).1
    have hgd2 : gd ≠ g2 := by
      have h1 := bd11.lt
      have h2 := hm.new g2 rfl
      omega
    have hPl0 := hPl.out _ hmw.only (by trivial) n0
    rw [hgi.out] at hPl0
    simp only [Option.isSome_some] at hPl0
    obtain ⟨po, hpo⟩ : ∃ po, po = posN l n0 := ⟨_, rfl⟩
    rw [← hpo] at hPl0 hlt hR
    have hpn' := hpn.out
    rw [← hpo] at hpn'
    replace hpn' := Lib.hid hpn'
    replace hPl0 := Lib.hid hPl0
    replace hR := Lib.hid hR
    replace hpo := Lib.hid hpo
    have hltI : (po : Int) < (l.length : Int) := by omega
    clear hm
    go_wp2_with fail
    refine hPl0.out.mono ?_; rintro e w13 ⟨rfl, k13⟩
    have hm13 := hmw.keep k13
    have hat13 := hat2.kept k13 (by simp)
    have hb13 := hb2.kept k13 (by simp)
    have bd13 : Bx w13 gd ⟨d0, d1, d2, d3, d4⟩ := bd12.kept k13 (by simp)
    have r1 := (nds_at hat13 hlt).2.1
    have r2 := (nds_at hat13 hlt).2.2.1
    rw [Nat.zero_add] at r1 r2
    have f1 := hb13.free (po * 5 + 1)
    have f2 := hb13.free (po * 5 + 2)
    have q0 := bd13.cells.1
    simp only at q0
    have hmf := hm13.moved hpn'.out d0 nm
    have hr' := hR.out
    subst hr'
    replace hmf := Lib.hid hmf
    clear hat2 hat13 hb2 hb13 hmw hm13 p0 p1 p2 p3 p4
    go_wp2
    go_ret2
    exact ⟨_, rfl, hmf.out⟩
end Go.Proofs.YteiekfccfddmjaaDoor
