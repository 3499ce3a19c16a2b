/- The document's Right. -/
import Derived.Test.YteiekfccfddmjaaDoorRight10
namespace Go.Proofs.YteiekfccfddmjaaDoor
open Go.RowKit

def kI : Option Nat → Int
  | some k => k
  | none => -1
theorem idxV_kI (o : Option Nat) : idxV o = .int .i64 (kI o) := by cases o <;> rfl
theorem kI_eq (o : Option Nat) (n : Nat) : kI o = (n : Int) ↔ o = some n := by
  cases o with
  | none => simp [kI]
  | some k => simp [kI]; omega
theorem rchk_no {t : List Nd} {i : Nat} {a x : Nd} (h1 : 1 ≤ i) (ha : t[i - 1]? = some a) (hx : t[i]? = some x)
    (h : ¬ (a.id < x.id ∧ nmB x.name = true ∧ x.size ≤ 1024 ∧ (x.dir = true → x.size = 0) ∧ (∃ p, getI t x.par = some p ∧ p.dir = true) ∧ kidX t x.par x.name = some i ∧ kids1 t x.par ≤ 12 ∧ (dpR t 7 x).getD 99 ≤ 6)) : ¬ Tree t :=
  fun ht => h ((rchk_iff ha hx).1 (ht.doc h1 (List.getElem?_eq_some_iff.1 hx).1))

set_option maxRecDepth 100000 in
set_option maxHeartbeats 4000000 in
theorem rright_any (w : World) (A : Option Addr) (c : Nat) (l : List Nd) (hb : Els ndE 5 w A l) (hl : l.length ≤ 1048576) :
    Calls Tryd.prog 13 #[.slice A l.length c] w fun e w' => Says (Tree l) e ∧ Only [] w w' := by
  have hlI : (l.length : Int) ≤ 1048576 := by omega
  by_cases h0 : l.length < 1
  · have hno : ¬ Tree l := fun h => by have := congrArg List.length h.cons; simp at this; omega
    replace hno := Lib.hid hno
    have h0d : decide ((l.length : Int) < 1) = true := decide_eq_true (by omega)
    go_enter Tryd.func13, Tryd.ntmps13
    go_wp2
    go_ret
    exact ⟨Says.no hno.out, Only.refl _ _⟩
  have h0b : decide ((l.length : Int) < 1) = false := decide_eq_false (by omega)
  by_cases h40 : 40 < l.length
  · have hno : ¬ Tree l := fun h => by have := h.len; omega
    replace hno := Lib.hid hno
    have h40d : decide ((40 : Int) < (l.length : Int)) = true := decide_eq_true (by omega)
    go_enter Tryd.func13, Tryd.ntmps13
    go_wp2
    go_ret
    exact ⟨Says.no hno.out, Only.refl _ _⟩
  have h40d : decide ((40 : Int) < (l.length : Int)) = false := decide_eq_false (by omega)
  obtain ⟨g, o, rfl, hg, hat⟩ := hb.get (i := 0) (by omega)
  obtain ⟨a0, a1, a2, a3, a4⟩ := nds_at hat (i := 0) (by omega)
  have hroot : l[0]? = some (l[0]'(by omega)) := List.getElem?_eq_getElem (by omega)
  rw [Nat.zero_mul, Nat.add_zero] at a0 a1 a2 a3 a4
  by_cases hrt : l[0]'(by omega) = rootN
  rotate_left
  · have hno : ¬ Tree l := fun h => hrt (by
      have := h.head
      rw [List.head?_eq_getElem?, hroot] at this
      injection this)
    generalize l[0]'(by omega) = x at *
    have hneb : (!decide (x = rootN)) = true := by simp [hrt]
    replace hno := Lib.hid hno
    replace hroot := Lib.hid hroot
    clear hrt hat hb
    go_enter Tryd.func13, Tryd.ntmps13
    go_wp2_with (refine wpList_neq_nd x rootN rfl _ _ _ rfl rfl rfl true hneb ?_)
    go_ret
    exact ⟨Says.no hno.out, Only.refl _ _⟩
  have hhead : l.head? = some rootN := by rw [List.head?_eq_getElem?, hroot, hrt]
  have hneb : (!decide (l[0]'(by omega) = rootN)) = false := by simp [hrt]
  generalize l[0]'(by omega) = x at *
  replace hrt := Lib.hid hrt
  replace hhead := Lib.hid hhead
  replace hroot := Lib.hid hroot
  go_enter Tryd.func13, Tryd.ntmps13
  go_wp2_with (refine wpList_neq_nd x rootN rfl _ _ _ rfl rfl rfl false hneb ?_)
  clear hneb a0 a1 a2 a3 a4
  go_loopw [3] (fun i wr => ∃ n : Nat, 1 ≤ n ∧ n ≤ l.length ∧ i = .int .i64 n ∧ Hid (∀ j, 1 ≤ j → j < n → rchk l j = true) ∧ Only [] w wr) (fun i _ => l.length - (intOf i).toNat)
  case atStart => exact ⟨1, by omega, by omega, rfl, fun j h1 hj => by omega, Only.refl _ _⟩
  case round =>
    obtain ⟨n, hn1, hn, rfl, hgood, hk⟩ := hrel
    by_cases hlt : n < l.length
    · have hnI : (n : Int) < (l.length : Int) := by omega
      have hn1I : (1 : Int) ≤ (n : Int) := by omega
      have hcz := nds_at (hat.kept hk (by simp)) (i := n) (by omega)
      have hcy := nds_at (hat.kept hk (by simp)) (i := n - 1) (by omega)
      obtain ⟨m, hm⟩ : ∃ m, m = n - 1 := ⟨_, rfl⟩
      have hmI : (n : Int) - 1 = (m : Int) := by omega
      have hmlt : (m : Int) < (l.length : Int) := by omega
      have hny : l[n - 1]? = some (l[n - 1]'(by omega)) := List.getElem?_eq_getElem (by omega)
      have hnz : l[n]? = some (l[n]'hlt) := List.getElem?_eq_getElem hlt
      have hno := fun h => rchk_no hn1 hny hnz h
      have hyes := fun h => (rchk_iff hny hnz).2 h
      have hG := fun W (k : Only [] w W) => rget_any W (some ⟨g, o, none⟩) c l (l[n]'hlt).par (hb.kept k (by simp)) hl
      have hK := fun W (k : Only [] w W) => rkid_any W (some ⟨g, o, none⟩) c l (l[n]'hlt).par (l[n]'hlt).name (hb.kept k (by simp)) hl (by omega)
      have hS := fun W (k : Only [] w W) => rkids_any W (some ⟨g, o, none⟩) c l (l[n]'hlt).par (hb.kept k (by simp)) hl (by omega)
      have hD := fun W (k : Only [] w W) => rdepth_any W (some ⟨g, o, none⟩) c l n (l[n]'hlt) hnz (hb.kept k (by simp)) hl
      have hidx : ∀ p, idxI l (l[n]'hlt).par = some p → ∃ z, l[p]? = some z ∧ getI l (l[n]'hlt).par = some z := fun p h => by
        obtain ⟨z, z1, _, z3⟩ := idxI_some h
        exact ⟨z, z1, z3⟩
      have hidn : idxI l (l[n]'hlt).par = none → getI l (l[n]'hlt).par = none := fun h => by rw [← idxI_get, h]; rfl
      generalize l[n]'hlt = z at *
      generalize l[n - 1]'(by omega) = y at *
      rw [← hm] at hcy
      obtain ⟨zi, zp, zn, zd, zs⟩ := z
      obtain ⟨c0, c1, c2, c3, c4⟩ := hcz
      obtain ⟨b0, _, _, _, _⟩ := hcy
      simp only at c0 c1 c2 c3 c4 hno hyes hG hK hS hD hidx hidn
      have hN := fun W => rname_any W zn
      generalize hnm : nmB zn = nb at *
      generalize y.id = yi at *
      have hkx := kI_eq (kidX l zp zn) n
      simp only [idxV_kI (kidX l zp zn)] at hK
      generalize kI (kidX l zp zn) = kv at *
      generalize kidX l zp zn = ko at *
      generalize kids1 l zp = sv at *
      generalize (dpR l 7 ⟨zi, zp, zn, zd, zs⟩).getD 99 = dv at *
      generalize idxI l zp = io at *
      have hnext : rchk l n = true → Hid (∀ j, 1 ≤ j → j < n + 1 → rchk l j = true) := fun h j h1 hj => by
        by_cases e : j = n
        · rw [e]; exact h
        · exact hgood.out j h1 (by omega)
      have hwa := hk.alloc (.cells #[.int .u32 zi, .int .u32 zp, .string (strOf zn), .bool zd, .int .u32 zs] 28)
      have bz := Bx.new wr ⟨zi, zp, zn, zd, zs⟩
      simp only at bz
      have hcells := bz.cells
      simp only at hcells
      obtain ⟨d0, d1, d2, d3, d4⟩ := hcells
      have b1 : (wr.alloc (.cells #[.int .u32 zi, .int .u32 zp, .string (strOf zn), .bool zd, .int .u32 zs] 28)).cell? ⟨g, o + m * 5, none⟩ = some (.int .u32 yi) := ((Only.refl [] wr).alloc _).cell b0 (by simp)
      have hNN := Lib.hid hN
      replace hnm := Lib.hid hnm
      replace hny := Lib.hid hny
      replace hnz := Lib.hid hnz
      replace hG := Lib.hid hG
      replace hK := Lib.hid hK
      replace hS := Lib.hid hS
      replace hD := Lib.hid hD
      replace hm := Lib.hid hm
      replace hidx := Lib.hid hidx
      replace hidn := Lib.hid hidn
      replace hkx := Lib.hid hkx
      clear hN
      by_cases hq : yi < zi ∧ nb = true ∧ zs ≤ 1024 ∧ (zd = true → zs = 0)
      rotate_left
      · have hnt := hno (fun h => hq ⟨h.1, h.2.1, h.2.2.1, h.2.2.2.1⟩)
        replace hnt := Lib.hid hnt
        clear hno hyes hnext hgood
        by_cases q1 : yi < zi
        · have e1 : decide (zi ≤ yi) = false := decide_eq_false (by omega)
          cases nb with
          | false =>
            clear hq
            go_wp2_with fail
            go_quiet (first | (go_at_call 34; refine Calls.quiet_of_same (hNN.out _)))
            go_wp2
            go_ret
            exact ⟨Says.no hnt.out, hwa.drewN _⟩
          | true =>
            by_cases q3 : zs ≤ 1024
            · have e3 : decide ((1024 : Int) < zs) = false := decide_eq_false (by omega)
              have q4 : zd = true ∧ (zs != 0) = true := by
                cases zd
                · exact absurd ⟨q1, rfl, q3, fun h => by cases h⟩ hq
                · exact ⟨rfl, by simpa using fun h => hq ⟨q1, rfl, q3, fun _ => h⟩⟩
              obtain ⟨rfl, q4⟩ := q4
              clear hq
              go_wp2_with fail
              go_quiet (first | (go_at_call 34; refine Calls.quiet_of_same (hNN.out _)))
              go_wp2
              go_ret
              exact ⟨Says.no hnt.out, hwa.drewN _⟩
            · have e3 : decide ((1024 : Int) < zs) = true := decide_eq_true (by omega)
              clear hq
              go_wp2_with fail
              go_quiet (first | (go_at_call 34; refine Calls.quiet_of_same (hNN.out _)))
              go_wp2
              go_ret
              exact ⟨Says.no hnt.out, hwa.drewN _⟩
        · have e1 : decide (zi ≤ yi) = true := decide_eq_true (by omega)
          clear hq
          go_wp2_with fail
          go_quiet (first | (go_at_call 34; refine Calls.quiet_of_same (hNN.out _)))
          go_wp2
          go_ret
          exact ⟨Says.no hnt.out, hwa.drewN _⟩
      obtain ⟨q1, q2, q3, q4⟩ := hq
      subst q2
      have e1 : decide (zi ≤ yi) = false := decide_eq_false (by omega)
      have e3 : decide ((1024 : Int) < zs) = false := decide_eq_false (by omega)
      have e4 : zd = false ∨ (zd = true ∧ zs = 0) := by
        cases hzd : zd
        · exact .inl rfl
        · exact .inr ⟨rfl, q4 hzd⟩
      have hno2 := fun (h : ¬ ((∃ p, getI l zp = some p ∧ p.dir = true) ∧ ko = some n ∧ sv ≤ 12 ∧ dv ≤ 6)) => hno (fun hh => h hh.2.2.2.2)
      have hyes2 := fun h => hnext (hyes ⟨q1, rfl, q3, q4, h⟩)
      clear hno hyes hnext hgood q4
      -- what stands behind the first question
      have hback : ∀ nq, Hid (Only [] w ((wr.alloc (.cells #[.int .u32 zi, .int .u32 zp, .string (strOf zn), .bool zd, .int .u32 zs] 28)).drewN nq)) := fun nq => hwa.drewN nq
      by_cases hg1 : ∃ p z, io = some p ∧ l[p]? = some z ∧ z.dir = true
      rotate_left
      · have hnt := hno2 (fun h => by
          obtain ⟨⟨z, hz1, hz2⟩, _⟩ := h
          cases hio : io with
          | none => rw [hidn.out hio] at hz1; cases hz1
          | some p =>
            obtain ⟨z', y1, y2⟩ := hidx.out p hio
            rw [y2] at hz1
            injection hz1 with hz1
            subst hz1
            exact hg1 ⟨p, z', hio, y1, hz2⟩)
        replace hnt := Lib.hid hnt
        clear hno2 hyes2
        cases io with
        | none =>
          clear hg1
          rcases e4 with rfl | ⟨rfl, rfl⟩
          all_goals
            go_wp2_with fail
            go_quiet (first | (go_at_call 34; refine Calls.quiet_of_same (hNN.out _)))
            go_wp2_with fail
            refine (hG.out _ (hback nq).out).mono ?_; rintro e w3 ⟨rfl, k3⟩
            have hk3 := (hback nq).out.trans k3
            simp only [idxV]
            go_wp2
            go_ret
            exact ⟨Says.no hnt.out, hk3⟩
        | some p =>
          obtain ⟨z', y1, y2⟩ := hidx.out p rfl
          have hpd : z'.dir = false := by
            cases h : z'.dir
            · rfl
            · exact absurd ⟨p, z', rfl, y1, h⟩ hg1
          have hpl : p < l.length := (List.getElem?_eq_some_iff.1 y1).1
          have hpz : l[p] = z' := (List.getElem?_eq_some_iff.1 y1).2
          have hcp := fun W (kk : Only [] w W) => (nds_at (hat.kept kk (by simp)) hpl).2.2.2.1
          rw [hpz, hpd] at hcp
          replace hcp := Lib.hid hcp
          have hpI : (p : Int) < (l.length : Int) := by omega
          have hp0 : decide ((p : Int) < 0) = false := decide_eq_false (by omega)
          replace y1 := Lib.hid y1
          replace y2 := Lib.hid y2
          replace hpz := Lib.hid hpz
          clear hg1
          rcases e4 with rfl | ⟨rfl, rfl⟩
          all_goals
            go_wp2_with fail
            go_quiet (first | (go_at_call 34; refine Calls.quiet_of_same (hNN.out _)))
            go_wp2_with fail
            refine (hG.out _ (hback nq).out).mono ?_; rintro e w3 ⟨rfl, k3⟩
            have hk3 := (hback nq).out.trans k3
            have e5 := hcp.out _ hk3
            simp only [idxV]
            go_wp2
            go_ret
            exact ⟨Says.no hnt.out, hk3⟩
      obtain ⟨p, z', hio, y1, hpd⟩ := hg1
      subst hio
      have hpl : p < l.length := (List.getElem?_eq_some_iff.1 y1).1
      have hpz : l[p] = z' := (List.getElem?_eq_some_iff.1 y1).2
      have hcp := fun W (kk : Only [] w W) => (nds_at (hat.kept kk (by simp)) hpl).2.2.2.1
      rw [hpz, hpd] at hcp
      replace hcp := Lib.hid hcp
      have hpI : (p : Int) < (l.length : Int) := by omega
      have hp0 : decide ((p : Int) < 0) = false := decide_eq_false (by omega)
      have hpp : ∃ p', getI l zp = some p' ∧ p'.dir = true := by
        obtain ⟨z2, v1, v2⟩ := hidx.out p rfl
        rw [y1] at v1
        injection v1 with v1
        subst v1
        exact ⟨z', v2, hpd⟩
      have hno3 := fun (h : ¬ (ko = some n ∧ sv ≤ 12 ∧ dv ≤ 6)) => hno2 (fun hh => h hh.2)
      have hyes3 := fun h => hyes2 ⟨hpp, h⟩
      clear hno2 hyes2 hpp
      replace y1 := Lib.hid y1
      replace hpz := Lib.hid hpz
      replace hpd := Lib.hid hpd
      have KB : Hid (∀ w', Only [] (wr.alloc (.cells #[.int .u32 zi, .int .u32 zp, .string (strOf zn), .bool zd, .int .u32 zs] 28)) w' → w'.cell? ⟨wr.heap.size, 1, none⟩ = some (.int .u32 zp) ∧ w'.cell? ⟨wr.heap.size, 2, none⟩ = some (.string (strOf zn))) := fun w' kk => by
        have q := (bz.kept kk (by simp)).cells
        exact ⟨q.2.1, q.2.2.1⟩
      by_cases hg2 : kv = n
      rotate_left
      · have hnt := hno3 (fun h => hg2 (hkx.out.2 h.1))
        replace hnt := Lib.hid hnt
        have e6 : (kv != (n : Int)) = true := by simpa using hg2
        clear hno3 hyes3
        rcases e4 with rfl | ⟨rfl, rfl⟩
        all_goals
          go_wp2_with fail
          go_quiet (first | (go_at_call 34; refine Calls.quiet_of_same (hNN.out _)))
          go_wp2_with fail
          refine (hG.out _ (hback nq).out).mono ?_; rintro e w3 ⟨rfl, k3⟩
          have hk3 := (hback nq).out.trans k3
          have e5 := hcp.out _ hk3
          obtain ⟨f1, f2⟩ := KB.out _ (((Only.refl [] _).drewN nq).trans k3)
          simp only [idxV]
          go_wp2_with fail
          refine (hK.out _ hk3).mono ?_; rintro e w4 ⟨rfl, k4⟩
          have hk4 := hk3.trans k4
          go_wp2
          go_ret
          exact ⟨Says.no hnt.out, hk4⟩
      have hkn := hkx.out.1 hg2
      have hno4 := fun (h : ¬ (sv ≤ 12 ∧ dv ≤ 6)) => hno3 (fun hh => h hh.2)
      have hyes4 := fun h => hyes3 ⟨hkn, h⟩
      clear hno3 hyes3 hkn
      subst hg2
      by_cases hg3 : sv ≤ 12
      rotate_left
      · have hnt := hno4 (fun h => hg3 h.1)
        replace hnt := Lib.hid hnt
        have e6 : decide ((12 : Int) < (sv : Int)) = true := decide_eq_true (by omega)
        clear hno4 hyes4
        rcases e4 with rfl | ⟨rfl, rfl⟩
        all_goals
          go_wp2_with fail
          go_quiet (first | (go_at_call 34; refine Calls.quiet_of_same (hNN.out _)))
          go_wp2_with fail
          refine (hG.out _ (hback nq).out).mono ?_; rintro e w3 ⟨rfl, k3⟩
          have hk3 := (hback nq).out.trans k3
          have e5 := hcp.out _ hk3
          obtain ⟨f1, f2⟩ := KB.out _ (((Only.refl [] _).drewN nq).trans k3)
          simp only [idxV]
          go_wp2_with fail
          refine (hK.out _ hk3).mono ?_; rintro e w4 ⟨rfl, k4⟩
          have hk4 := hk3.trans k4
          obtain ⟨f1, f2⟩ := KB.out _ ((((Only.refl [] _).drewN nq).trans k3).trans k4)
          go_wp2_with fail
          refine (hS.out _ hk4).mono ?_; rintro e w5 ⟨rfl, k5⟩
          have hk5 := hk4.trans k5
          go_wp2
          go_ret
          exact ⟨Says.no hnt.out, hk5⟩
      have e6 : decide ((12 : Int) < (sv : Int)) = false := decide_eq_false (by omega)
      by_cases hg4 : dv ≤ 6
      rotate_left
      · have hnt := hno4 (fun h => hg4 h.2)
        replace hnt := Lib.hid hnt
        have e7 : decide ((6 : Int) < (dv : Int)) = true := decide_eq_true (by omega)
        clear hno4 hyes4
        rcases e4 with rfl | ⟨rfl, rfl⟩
        all_goals
          go_wp2_with fail
          go_quiet (first | (go_at_call 34; refine Calls.quiet_of_same (hNN.out _)))
          go_wp2_with fail
          refine (hG.out _ (hback nq).out).mono ?_; rintro e w3 ⟨rfl, k3⟩
          have hk3 := (hback nq).out.trans k3
          have e5 := hcp.out _ hk3
          obtain ⟨f1, f2⟩ := KB.out _ (((Only.refl [] _).drewN nq).trans k3)
          simp only [idxV]
          go_wp2_with fail
          refine (hK.out _ hk3).mono ?_; rintro e w4 ⟨rfl, k4⟩
          have hk4 := hk3.trans k4
          obtain ⟨f1, f2⟩ := KB.out _ ((((Only.refl [] _).drewN nq).trans k3).trans k4)
          go_wp2_with fail
          refine (hS.out _ hk4).mono ?_; rintro e w5 ⟨rfl, k5⟩
          have hk5 := hk4.trans k5
          go_wp2_with fail
          refine (hD.out _ hk5).mono ?_; rintro e w6 ⟨rfl, k6⟩
          have hk6 := hk5.trans k6
          go_wp2
          go_ret
          exact ⟨Says.no hnt.out, hk6⟩
      have e7 : decide ((6 : Int) < (dv : Int)) = false := decide_eq_false (by omega)
      have hnx := hyes4 ⟨hg3, hg4⟩
      replace hnx := Lib.hid hnx
      clear hno4 hyes4
      rcases e4 with rfl | ⟨rfl, rfl⟩
      all_goals
        go_wp2_with fail
        go_quiet (first | (go_at_call 34; refine Calls.quiet_of_same (hNN.out _)))
        go_wp2_with fail
        refine (hG.out _ (hback nq).out).mono ?_; rintro e w3 ⟨rfl, k3⟩
        have hk3 := (hback nq).out.trans k3
        have e5 := hcp.out _ hk3
        obtain ⟨f1, f2⟩ := KB.out _ (((Only.refl [] _).drewN nq).trans k3)
        simp only [idxV]
        go_wp2_with fail
        refine (hK.out _ hk3).mono ?_; rintro e w4 ⟨rfl, k4⟩
        have hk4 := hk3.trans k4
        obtain ⟨f1, f2⟩ := KB.out _ ((((Only.refl [] _).drewN nq).trans k3).trans k4)
        go_wp2_with fail
        refine (hS.out _ hk4).mono ?_; rintro e w5 ⟨rfl, k5⟩
        have hk5 := hk4.trans k5
        go_wp2_with fail
        refine (hD.out _ hk5).mono ?_; rintro e w6 ⟨rfl, k6⟩
        have hk6 := hk5.trans k6
        go_wp2
        go_roundw
        case rel => exact ⟨n + 1, by omega, by omega, by go_num, hnx.out.out, hk6⟩
        case measure => simp [intOf]; omega
    · have hyes : Tree l := tree_of_doc hhead.out (by omega) (fun j h1 hj => hgood.out j h1 (by omega))
      replace hyes := Lib.hid hyes
      clear hgood
      go_wp2
      go_ret
      exact ⟨Says.yes hyes.out, hk⟩
end Go.Proofs.YteiekfccfddmjaaDoor
