/- The document's Right, Under. -/
import Derived.Test.YthpjkhmkjhgbkaaGreatDoorRow5
namespace Go.Proofs.YthpjkhmkjhgbkaaGreatDoor
open Go.RowKit Go.Maps

set_option maxRecDepth 100000 in
set_option maxHeartbeats 4000000 in
theorem rright_any (w : World) (A : Option Addr) (c : Nat) (l : List Ch) (hb : Els chE 3 w A l) (hl : l.length ≤ 9223372036854775807) :
    Calls Tryz.prog 61 #[.slice A l.length c] w fun e w' => Says (FitL l) e ∧ Only [] w w' := by
  by_cases h40 : 40 < l.length
  · have hno : Hid (¬ FitL l) := fun h => by have := h.1; omega
    have h40' : (40 : Int) < (l.length : Int) := by omega
    go_enter Tryz.func61, Tryz.ntmps61
    go_wp2
    go_ret
    exact ⟨Says.no hno.out, Only.refl _ _⟩
  have h40' : ¬ (40 : Int) < (l.length : Int) := by omega
  have hlI : (l.length : Int) ≤ 40 := by omega
  go_enter Tryz.func61, Tryz.ntmps61
  go_wp2_with fail
  go_loopw [3] (fun i wr => ∃ n : Nat, n ≤ l.length ∧ i = .int .i64 n ∧ Hid (∀ j, j < n → goodC l j) ∧ Only [] w wr) (fun i _ => l.length - (intOf i).toNat)
  case atStart => exact ⟨0, Nat.zero_le _, rfl, fun j hj => by omega, Only.refl _ _⟩
  case round =>
    obtain ⟨n, hn, rfl, hgood, hk⟩ := hrel
    by_cases hlt : n < l.length
    · obtain ⟨g, o, rfl, hg, hat⟩ := hb.get hlt
      have hatw := hat.kept hk (by simp)
      obtain ⟨c0, c1, c2⟩ := chs_at hatw hlt
      have hx : l[n]? = some l[n] := List.getElem?_eq_getElem hlt
      have hs0 : (strOf l[n].key).size = l[n].key.length := strOf_size _
      have hs1 : (strOf l[n].val).size = l[n].val.length := strOf_size _
      have hv0 := beq_toList l[n].val []
      have hbe := fun y : List UInt8 => beq_toList y l[n].key
      have hno : ∀ P : ¬ goodC l n, Hid (¬ FitL l) := fun P h => P (h.2 n hlt)
      generalize l[n] = x at *
      obtain ⟨xk, xv, xg⟩ := x
      simp only at c0 c1 c2 hs0 hs1 hbe hv0
      rw [show strOf [] = (⟨#[]⟩ : ByteArray) from rfl] at hv0
      have hno1 : ¬ (isKeyL xk = true ∧ xv.length ≤ 200 ∧ (xg = true → xv = [])) → Hid (¬ FitL l) := fun P => hno fun h => P ⟨(h _ hx).1, (h _ hx).2.1, (h _ hx).2.2.1⟩
      have hv2 : (strOf xv).toList = xv := str_toList xv
      generalize hks : strOf xk = ks at *
      generalize hvs : strOf xv = vs at *
      replace hv2 := Lib.hid hv2
      replace hs0 := Lib.hid hs0
      replace hs1 := Lib.hid hs1
      replace hbe := Lib.hid hbe
      replace hno := Lib.hid hno
      replace hno1 := Lib.hid hno1
      replace hks := Lib.hid hks
      replace hvs := Lib.hid hvs
      by_cases b1 : (ks.size : Int) < 1
      · have hfin := hno1.out (fun h => by have h1 := h.1; have h2 := hs0.out; simp only [isKeyL, decide_eq_true_eq] at h1; omega)
        replace hx := Lib.hid hx
        clear hgood hatw hat
        go_wp2
        go_ret
        exact ⟨Says.no hfin.out, hk⟩
      by_cases b2 : (16 : Int) < (ks.size : Int)
      · have hfin := hno1.out (fun h => by have h1 := h.1; have h2 := hs0.out; simp only [isKeyL, decide_eq_true_eq] at h1; omega)
        replace hx := Lib.hid hx
        clear hgood hatw hat
        go_wp2
        go_ret
        exact ⟨Says.no hfin.out, hk⟩
      by_cases b3 : xg = true ∧ ¬ xv = []
      · obtain ⟨rfl, b4⟩ := b3
        have hfin := hno1.out (fun h => b4 (h.2.2 rfl))
        have hv1 : ¬ vs.toList = [] := by rw [hv2.out]; exact b4
        replace hx := Lib.hid hx
        replace hv0 := Lib.hid hv0
        replace b4 := Lib.hid b4
        clear hgood hatw hat
        go_wp2
        go_ret
        exact ⟨Says.no hfin.out, hk⟩
      cases xg with
      | true =>
        have b4 : xv = [] := Decidable.byContradiction fun h => b3 ⟨rfl, h⟩
        have hv1 : vs.toList = [] := by rw [hv2.out, b4]
        replace b4 := Lib.hid b4
        clear b3
        by_cases b5 : (200 : Int) < (vs.size : Int)
        · have hfin := hno1.out (fun h => by have h1 := h.2.1; have h2 := hs1.out; omega)
          replace hx := Lib.hid hx
          replace hv0 := Lib.hid hv0
          clear hgood hatw hat
          go_wp2
          go_ret
          exact ⟨Says.no hfin.out, hk⟩
        · have hgd : isKeyL xk = true ∧ xv.length ≤ 200 ∧ ((true : Bool) = true → xv = []) := ⟨by have h2 := hs0.out; simp only [isKeyL, decide_eq_true_eq]; omega, by have h2 := hs1.out; omega, fun _ => b4.out⟩
          obtain ⟨wq, rfl⟩ : ∃ wq, wq = wr := ⟨wr, rfl⟩
          replace hv0 := Lib.hid hv0
          replace hgd := Lib.hid hgd
          replace hx := Lib.hid hx
          clear hatw c0 c1 c2
          obtain ⟨c0, c1, c2⟩ := chs_at (hat.kept hk (by simp)) hlt
          have hxe : l[n] = ⟨xk, xv, true⟩ := by have := hx.out; rw [List.getElem?_eq_getElem hlt] at this; injection this
          rw [hxe] at c0 c1 c2
          simp only at c0 c1 c2
          rw [hks.out] at c0
          rw [hvs.out] at c1
          replace hxe := Lib.hid hxe
          go_wp2_with fail
          go_loopw [4] (fun i wr => ∃ k : Nat, k ≤ n ∧ i = .int .i64 k ∧ Hid (∀ (j : Nat) y, j < k → l[j]? = some y → y.key ≠ xk) ∧ Only [] w wr) (fun i _ => n - (intOf i).toNat)
          case atStart => exact ⟨0, Nat.zero_le _, rfl, fun j y hj => by omega, hk⟩
          case round =>
            clear c0 c1 c2
            obtain ⟨k, hkn, rfl, hdiff, hk2⟩ := hrel
            obtain ⟨c0, _, _⟩ := chs_at (hat.kept hk2 (by simp)) hlt
            rw [hxe.out] at c0
            simp only at c0
            rw [hks.out] at c0
            by_cases hkl : k < n
            · have hkL : k < l.length := by omega
              obtain ⟨d0, _, _⟩ := chs_at (hat.kept hk2 (by simp)) hkL
              have hy : l[k]? = some l[k] := List.getElem?_eq_getElem hkL
              have hbx := hbe.out l[k].key
              generalize l[k] = y at *
              obtain ⟨yk, yv, yg⟩ := y
              simp only at d0 hbx
              by_cases he : yk = xk
              · have hb1 : ((strOf yk).toList == ks.toList) = true := by rw [hbx]; simpa using he
                have hfin := hno.out (fun h => (h _ hx.out).2.2.2 ⟨k, _, hkl, hy, he⟩)
                generalize strOf yk = ys at *
                replace hbx := Lib.hid hbx
                replace hy := Lib.hid hy
                replace he := Lib.hid he
                clear hgood hdiff hat
                go_wp2
                go_quiet (fail)
                go_wp2
                go_ret
                exact ⟨Says.no hfin.out, hk2.drewN _⟩
              · have hb1 : ((strOf yk).toList == ks.toList) = false := by rw [hbx]; simpa using he
                have hnext : Hid (∀ (j : Nat) y, j < k + 1 → l[j]? = some y → y.key ≠ xk) := fun j z hj hz => by
                  by_cases hjk : j = k
                  · subst hjk
                    rw [hy] at hz
                    injection hz with hz
                    subst hz
                    exact he
                  · exact hdiff.out j z (by omega) hz
                generalize strOf yk = ys at *
                replace hbx := Lib.hid hbx
                replace hy := Lib.hid hy
                replace he := Lib.hid he
                clear hgood hdiff hat
                go_wp2
                go_quiet (fail)
                go_wp2
                go_roundw
                case rel => exact ⟨k + 1, by omega, by go_num, hnext, hk2.drewN _⟩
                case measure => simp [intOf]; omega
            · have hge : (n : Int) ≤ k := by omega
              have hgn : goodC l n := fun z hz => by
                rw [hx.out] at hz
                injection hz with hz
                subst hz
                exact ⟨hgd.out.1, hgd.out.2.1, (fun _ => b4.out), fun ⟨j, y, hj, hy, e⟩ => hdiff.out j y (by omega) hy e⟩
              have hnext : Hid (∀ j, j < n + 1 → goodC l j) := fun j hj => by
                by_cases hjn : j = n
                · rw [hjn]; exact hgn
                · exact hgood.out j (by omega)
              replace hgn := Lib.hid hgn
              clear hgood hdiff hat c0
              go_wp2
              go_roundw
              case rel => exact ⟨n + 1, by omega, by go_num, hnext, hk2⟩
              case measure => simp [intOf]; omega
      | false =>
        clear b3
        by_cases b5 : (200 : Int) < (vs.size : Int)
        · have hfin := hno1.out (fun h => by have h1 := h.2.1; have h2 := hs1.out; omega)
          replace hx := Lib.hid hx
          replace hv0 := Lib.hid hv0
          clear hgood hatw hat
          go_wp2
          go_ret
          exact ⟨Says.no hfin.out, hk⟩
        · have hgd : isKeyL xk = true ∧ xv.length ≤ 200 ∧ ((false : Bool) = true → xv = []) := ⟨by have h2 := hs0.out; simp only [isKeyL, decide_eq_true_eq]; omega, by have h2 := hs1.out; omega, fun h => by cases h⟩
          obtain ⟨wq, rfl⟩ : ∃ wq, wq = wr := ⟨wr, rfl⟩
          replace hv0 := Lib.hid hv0
          replace hgd := Lib.hid hgd
          replace hx := Lib.hid hx
          clear hatw c0 c1 c2
          obtain ⟨c0, c1, c2⟩ := chs_at (hat.kept hk (by simp)) hlt
          have hxe : l[n] = ⟨xk, xv, false⟩ := by have := hx.out; rw [List.getElem?_eq_getElem hlt] at this; injection this
          rw [hxe] at c0 c1 c2
          simp only at c0 c1 c2
          rw [hks.out] at c0
          rw [hvs.out] at c1
          replace hxe := Lib.hid hxe
          go_wp2_with fail
          go_loopw [4] (fun i wr => ∃ k : Nat, k ≤ n ∧ i = .int .i64 k ∧ Hid (∀ (j : Nat) y, j < k → l[j]? = some y → y.key ≠ xk) ∧ Only [] w wr) (fun i _ => n - (intOf i).toNat)
          case atStart => exact ⟨0, Nat.zero_le _, rfl, fun j y hj => by omega, hk⟩
          case round =>
            clear c0 c1 c2
            obtain ⟨k, hkn, rfl, hdiff, hk2⟩ := hrel
            obtain ⟨c0, _, _⟩ := chs_at (hat.kept hk2 (by simp)) hlt
            rw [hxe.out] at c0
            simp only at c0
            rw [hks.out] at c0
            by_cases hkl : k < n
            · have hkL : k < l.length := by omega
              obtain ⟨d0, _, _⟩ := chs_at (hat.kept hk2 (by simp)) hkL
              have hy : l[k]? = some l[k] := List.getElem?_eq_getElem hkL
              have hbx := hbe.out l[k].key
              generalize l[k] = y at *
              obtain ⟨yk, yv, yg⟩ := y
              simp only at d0 hbx
              by_cases he : yk = xk
              · have hb1 : ((strOf yk).toList == ks.toList) = true := by rw [hbx]; simpa using he
                have hfin := hno.out (fun h => (h _ hx.out).2.2.2 ⟨k, _, hkl, hy, he⟩)
                generalize strOf yk = ys at *
                replace hbx := Lib.hid hbx
                replace hy := Lib.hid hy
                replace he := Lib.hid he
                clear hgood hdiff hat
                go_wp2
                go_quiet (fail)
                go_wp2
                go_ret
                exact ⟨Says.no hfin.out, hk2.drewN _⟩
              · have hb1 : ((strOf yk).toList == ks.toList) = false := by rw [hbx]; simpa using he
                have hnext : Hid (∀ (j : Nat) y, j < k + 1 → l[j]? = some y → y.key ≠ xk) := fun j z hj hz => by
                  by_cases hjk : j = k
                  · subst hjk
                    rw [hy] at hz
                    injection hz with hz
                    subst hz
                    exact he
                  · exact hdiff.out j z (by omega) hz
                generalize strOf yk = ys at *
                replace hbx := Lib.hid hbx
                replace hy := Lib.hid hy
                replace he := Lib.hid he
                clear hgood hdiff hat
                go_wp2
                go_quiet (fail)
                go_wp2
                go_roundw
                case rel => exact ⟨k + 1, by omega, by go_num, hnext, hk2.drewN _⟩
                case measure => simp [intOf]; omega
            · have hge : (n : Int) ≤ k := by omega
              have hgn : goodC l n := fun z hz => by
                rw [hx.out] at hz
                injection hz with hz
                subst hz
                exact ⟨hgd.out.1, hgd.out.2.1, (fun h => by cases h), fun ⟨j, y, hj, hy, e⟩ => hdiff.out j y (by omega) hy e⟩
              have hnext : Hid (∀ j, j < n + 1 → goodC l j) := fun j hj => by
                by_cases hjn : j = n
                · rw [hjn]; exact hgn
                · exact hgood.out j (by omega)
              replace hgn := Lib.hid hgn
              clear hgood hdiff hat c0
              go_wp2
              go_roundw
              case rel => exact ⟨n + 1, by omega, by go_num, hnext, hk2⟩
              case measure => simp [intOf]; omega
    · have hge : (l.length : Int) ≤ n := by omega
      have hfin : FitL l := ⟨by omega, fun i hi => hgood.out i (by omega)⟩
      replace hfin := Lib.hid hfin
      clear hgood
      go_wp2
      go_ret
      exact ⟨Says.yes hfin.out, hk⟩
end Go.Proofs.YthpjkhmkjhgbkaaGreatDoor
