/- The document's In; Kids, the world as it was. -/
import Derived.Test.YteiekfccfddmjaaDoorRrm10
namespace Go.Proofs.YteiekfccfddmjaaDoor
open Go.RowKit

set_option maxRecDepth 100000 in
set_option maxHeartbeats 2000000 in
theorem rkids_same (w : World) (A : Option Addr) (c : Nat) (l : List Nd) (d : Int) (hb : Els ndE 5 w A l) (hl : l.length ≤ 1048576) (hl1 : 1 ≤ l.length) :
    Calls Tryd.prog 36 #[.slice A l.length c, .int .u32 d] w fun e w' => e = .returned (.int .i64 (kids1 l d : Nat)) ∧ w' = w := by
  have hlI : (l.length : Int) ≤ 1048576 := by omega
  go_enter Tryd.func36, Tryd.ntmps36
  go_wp2_with fail
  go_loopw [6, 5] (fun i s wr => ∃ n m : Nat, 1 ≤ n ∧ n ≤ l.length ∧ i = .int .i64 n ∧ s = .int .i64 m ∧ m ≤ n ∧ Hid (m = kids1 (l.take n) d) ∧ wr = w) (fun i _ _ => l.length - (intOf i).toNat)
  case atStart => exact ⟨1, 0, by omega, hl1, rfl, rfl, by omega, (by cases l <;> simp [kids1] : 0 = kids1 (l.take 1) d), rfl⟩
  case round =>
    obtain ⟨n, m, hn1, hn, rfl, rfl, hmn, hm, rfl⟩ := hrel
    by_cases hlt : n < l.length
    · obtain ⟨g, o, rfl, hg, hat⟩ := hb.get hlt
      obtain ⟨c0, c1, c2, c3, c4⟩ := nds_at hat hlt
      have hx : l[n]? = some l[n] := List.getElem?_eq_getElem hlt
      have hst := kids1_take (d := d) hn1 hx
      generalize l[n] = x at *
      obtain ⟨xi, xp, xn, xd, xs⟩ := x
      simp only at c0 c1 c2 c3 c4 hst
      clear hat
      by_cases he : xp = d
      · subst he
        rw [if_pos rfl] at hst
        have hm' : Hid (m + 1 = kids1 (l.take (n + 1)) xp) := by rw [hst, ← hm.out]; exact rfl
        replace hst := Lib.hid hst
        replace hx := Lib.hid hx
        go_wp2
        go_roundw
        case rel => exact ⟨n + 1, m + 1, by omega, by omega, by go_num, by go_num, by omega, hm', by trivial⟩
        case measure => simp [intOf]; omega
      · rw [if_neg he] at hst
        have hm' : Hid (m = kids1 (l.take (n + 1)) d) := by rw [hst, ← hm.out]; rfl
        replace hst := Lib.hid hst
        replace hx := Lib.hid hx
        go_wp2
        go_roundw
        case rel => exact ⟨n + 1, m, by omega, by omega, by go_num, rfl, by omega, hm', by trivial⟩
        case measure => simp [intOf]; omega
    · have hm' : m = kids1 l d := by have := hm.out; rwa [List.take_of_length_le (by omega)] at this
      subst hm'
      go_wp2
      go_ret
      exact ⟨rfl, rfl⟩


theorem ins_root {l : List Nd} (hT : Tree l) {n : Int} (h1 : n ≠ 1) (h0 : n ≠ 0) : ¬ Ins l n 1 := by
  rintro ⟨k, hk⟩
  match k, hk with
  | 0, hk => simp [up] at hk; exact h1 hk.symm
  | 1, hk => rw [up_one, hT.par1] at hk; injection hk with hk; exact h0 hk.symm
  | k + 2, hk => rw [up, hT.par1, Option.bind_some, up, hT.par0] at hk; cases hk
theorem ins_step {l : List Nd} (hT : Tree l) {y : Nd} (hy : y ∈ l) {n : Int} (hne : y.id ≠ n) : Ins l n y.id ↔ Ins l n y.par := by
  constructor
  · rintro ⟨k, hk⟩
    cases k with
    | zero => simp [up] at hk; exact absurd hk hne
    | succ k => rw [up, hT.parF_of hy, Option.bind_some] at hk; exact ⟨k, hk⟩
  · rintro ⟨k, hk⟩
    exact ⟨k + 1, by rw [up, hT.parF_of hy, Option.bind_some]; exact hk⟩
set_option maxRecDepth 100000 in
set_option maxHeartbeats 2000000 in
theorem rin_any (w : World) (A : Option Addr) (c : Nat) (l : List Nd) (i m : Nat) (x n : Nd) (hb : Els ndE 5 w A l) (hl : l.length ≤ 1000) (hT : Tree l) (hx : l[i]? = some x) (hn : l[m]? = some n) :
    Calls Tryd.prog 61 #[.slice A l.length c, .int .i64 i, .int .i64 m] w fun e w' => e = .returned (.bool (insB l n.id x.id)) ∧ Only [] w w' := by
  have hlI : (l.length : Int) ≤ 1000 := by omega
  have hnm := List.mem_of_getElem? hn
  have hxm := List.mem_of_getElem? hx
  have hn1 := hT.pos hnm
  have hml := (List.getElem?_eq_some_iff.1 hn).1
  obtain ⟨b, hbq⟩ : ∃ b, b = insB l n.id x.id := ⟨_, rfl⟩
  rw [← hbq]
  have hins : b = true ↔ Ins l n.id x.id := by rw [hbq]; exact insB_iff hT ⟨x, hxm, rfl⟩ (by omega)
  have hG := fun W j (k : Only [] w W) => rget_any W A c l j (hb.kept k (by simp)) (by omega)
  replace hG := Lib.hid hG
  replace hins := Lib.hid hins
  have hT' := Lib.hid hT
  have hn' := Lib.hid hn
  have hb' := Lib.hid hb
  clear hT hn hb hbq
  go_enter Tryd.func61, Tryd.ntmps61
  go_wp2_with fail
  go_loopw [1] (fun a wr => ∃ (j : Nat) (y : Nd), a = .int .i64 j ∧ Hid (l[j]? = some y) ∧ Hid (b = true ↔ Ins l n.id y.id) ∧ Only [] w wr) (fun a _ => depN l (l.getD (intOf a).toNat zeroN))
  case atStart => exact ⟨i, x, rfl, hx, hins, Only.refl _ _⟩
  case round =>
    obtain ⟨j, y, rfl, hy, hI, hk⟩ := hrel
    have hjl := (List.getElem?_eq_some_iff.1 hy.out).1
    have hym := List.mem_of_getElem? hy.out
    by_cases hjm : j = m
    · have hyn : y = n := by have := hy.out; rw [hjm, hn'.out] at this; injection this with this; exact this.symm
      have hbt : b = true := hI.out.2 ⟨0, by rw [hyn]; rfl⟩
      have hjb : ((j : Int) != (m : Int)) = false := by simp [hjm]
      subst hbt
      replace hjm := Lib.hid hjm
      replace hyn := Lib.hid hyn
      go_wp2
      go_ret
      exact ⟨rfl, hk⟩
    · have hjb : ((j : Int) != (m : Int)) = true := by simp; omega
      have hyne : y.id ≠ n.id := fun e => by
        have h1 := posN_of hT'.out.rise hy.out
        have h2 := posN_of hT'.out.rise hn'.out
        rw [e, h2] at h1
        exact hjm h1.symm
      by_cases hj0 : j = 0
      · have hy1 : y.id = 1 := (hT'.out.first hy.out).1 hj0
        have hbf : b = false := by
          cases b with
          | false => rfl
          | true =>
            have := hI.out.1 rfl
            rw [hy1] at this
            exact absurd this (ins_root hT'.out (fun e => hyne (by rw [hy1, e])) (by omega))
        have hjz : ((j : Int) == 0) = true := by simp [hj0]
        subst hbf
        replace hj0 := Lib.hid hj0
        replace hy1 := Lib.hid hy1
        go_wp2
        go_ret
        exact ⟨rfl, hk⟩
      · have hjz : ((j : Int) == 0) = false := by rw [beq_eq_false_iff_ne]; omega
        have hyid : y.id ≠ 1 := fun e => hj0 ((hT'.out.first hy.out).2 e)
        obtain ⟨p, hp, _⟩ := hT'.out.dirs y (hT'.out.tail_of hym hyid)
        have hstep := ins_step hT'.out hym hyne
        obtain ⟨hpm, hpi⟩ := getI_mem hp
        have hdep : depN l p < depN l y := by
          obtain ⟨a, ha, hu⟩ := hT'.out.depth hpm
          have hu2 : up (parF l) (a + 1) y.id = some 1 := by rw [up, hT'.out.parF_of hym, Option.bind_some, ← hpi]; exact hu
          rw [(depN_of hT'.out hpm hu).1, (depN_of hT'.out hym hu2).1]
          omega
        have hidx := idxI_get (t := l) (i := y.par)
        have hids := fun k => idxI_some (t := l) (i := y.par) (k := k)
        obtain ⟨g, o, rfl, _, hat⟩ := hb'.out.get hjl
        obtain ⟨c0, c1, c2, c3, c4⟩ := nds_at (hat.kept hk (by simp)) hjl
        have hye : l[j] = y := (List.getElem?_eq_some_iff.1 hy.out).2
        rw [hye] at c1
        have hjI : (j : Int) < (l.length : Int) := by omega
        have hme : depN l (l.getD j zeroN) = depN l y := by rw [List.getD_eq_getElem?_getD, hy.out]; rfl
        cases hio : idxI l y.par with
        | none => rw [hio, hp] at hidx; cases hidx
        | some q =>
          obtain ⟨u, hu, hui, hug⟩ := hids q hio
          have hup : u = p := by rw [hp] at hug; injection hug with hug; exact hug.symm
          have hGq := hG.out _ y.par hk
          rw [hio] at hGq
          simp only [idxV] at hGq
          have hmq : depN l (l.getD q zeroN) = depN l p := by rw [List.getD_eq_getElem?_getD, hu, hup]; rfl
          have hnext : Hid (b = true ↔ Ins l n.id u.id) := by
            have h1 := hI.out
            rw [hstep] at h1
            rw [hup, hpi]
            exact h1
          generalize y.par = yp at *
          replace hGq := Lib.hid hGq
          replace hu := Lib.hid hu
          replace hme := Lib.hid hme
          replace hmq := Lib.hid hmq
          replace hup := Lib.hid hup
          replace hye := Lib.hid hye
          clear hat hidx hids hio hp hpi hstep hui hug c0 c2 c3 c4
          go_wp2_with fail
          refine hGq.out.mono ?_; rintro e w3 ⟨rfl, k3⟩
          go_wp2_with fail
          go_roundw
          case rel => exact ⟨q, u, rfl, hu, hnext, hk.trans k3⟩
          case measure =>
            have h1 := hme.out
            have h2 := hmq.out
            rw [List.getD_eq_getElem?_getD] at h1 h2
            simp [intOf]
            omega
end Go.Proofs.YteiekfccfddmjaaDoor
