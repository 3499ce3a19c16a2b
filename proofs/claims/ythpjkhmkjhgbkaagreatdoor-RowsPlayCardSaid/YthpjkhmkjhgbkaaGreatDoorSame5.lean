/- same: are two lists of changes the same? -/
import Derived.Test.YthpjkhmkjhgbkaaGreatDoorLong5
namespace Go.Proofs.YthpjkhmkjhgbkaaGreatDoor
open Go.RowKit Go.Maps

theorem ch_ext {x y : Ch} (h1 : strOf x.key = strOf y.key) (h2 : strOf x.val = strOf y.val) (h3 : x.gone = y.gone) : x = y := by
  obtain ⟨a, b, c⟩ := x
  obtain ⟨a', b', c'⟩ := y
  simp only at h1 h2 h3
  rw [strOf_inj h1, strOf_inj h2, h3]
theorem str_ne {a b : List UInt8} (h : ¬ strOf a = strOf b) : ((strOf a).toList == (strOf b).toList) = false := by
  rw [beq_toList, beq_eq_false_iff_ne]
  exact fun e => h (by rw [e])
set_option maxRecDepth 100000 in
set_option maxHeartbeats 1000000 in
theorem same5_any (w : World) (A B : Option Addr) (c d : Nat) (L M : List Ch) (hA : Els chE 3 w A L) (hB : Els chE 3 w B M) (hl : L.length ≤ 1048576) :
    Calls Tryz.prog 23 #[.slice A L.length c, .slice B M.length d] w fun e w' => Says (L = M) e ∧ Only [] w w' := by
  by_cases hlen : L.length = M.length
  · have hlen' : (L.length : Int) = (M.length : Int) := by omega
    rw [← hlen]
    have hlenM : M.length = L.length := hlen.symm
    replace hlen := Lib.hid hlen
    clear hlen'
    go_enter Tryz.func23, Tryz.ntmps23
    go_wp2_with fail
    go_loopw [5] (fun i wr => ∃ k : Nat, k ≤ L.length ∧ i = .int .i64 k ∧ Hid (∀ j, j < k → L[j]? = M[j]?) ∧ Only [] w wr) (fun i _ => L.length - (intOf i).toNat)
    case atStart => exact ⟨0, Nat.zero_le _, rfl, fun j hj => by omega, Only.refl _ _⟩
    case round =>
      obtain ⟨k, hk, rfl, hsame, honly⟩ := hrel
      by_cases hlt : k < L.length
      · obtain ⟨g, o, rfl, hg, hat⟩ := hA.get hlt
        obtain ⟨g', o', rfl, hg', hat'⟩ := hB.get (i := k) (by omega)
        obtain ⟨a0, a1, a2⟩ := chs_at (hat.kept honly (by simp)) hlt
        obtain ⟨b0, b1, b2⟩ := chs_at (hat'.kept honly (by simp)) (i := k) (by omega)
        have hx : L[k]? = some L[k] := List.getElem?_eq_getElem hlt
        have hy : M[k]? = some (M[k]'(by omega)) := List.getElem?_eq_getElem (by omega)
        have hext : strOf L[k].key = strOf (M[k]'(by omega)).key → strOf L[k].val = strOf (M[k]'(by omega)).val → L[k].gone = (M[k]'(by omega)).gone → L[k] = M[k]'(by omega) := ch_ext
        generalize L[k] = x at *
        generalize M[k]'(by omega) = y at *
        obtain ⟨xk, xv, xg⟩ := x
        obtain ⟨yk, yv, yg⟩ := y
        simp only at a0 a1 a2 b0 b1 b2 hext
        by_cases he : strOf xk = strOf yk ∧ strOf xv = strOf yv ∧ xg = yg
        · obtain ⟨h1, h2, h3⟩ := he
          have hxy := hext h1 h2 h3
          have hsame2 : Hid (∀ j, j < k + 1 → L[j]? = M[j]?) := fun j hj => by
            by_cases hjk : j = k
            · subst hjk; rw [hx, hy, hxy]
            · exact hsame.out j (by omega)
          rw [h1] at a0
          rw [h2] at a1
          rw [h3] at a2
          generalize strOf yk = ys at *
          generalize strOf yv = yt at *
          replace hx := Lib.hid hx
          replace hy := Lib.hid hy
          replace hext := Lib.hid hext
          replace h1 := Lib.hid h1
          replace h2 := Lib.hid h2
          replace h3 := Lib.hid h3
          clear hsame hxy
          go_wp2
          go_quiet (fail)
          go_wp2
          go_roundw
          case rel => exact ⟨k + 1, by omega, by go_num, hsame2, honly.drewN _⟩
          case measure => simp [intOf]; omega
        · have hno : Hid (¬ L = M) := fun h => by
            rw [h, hy] at hx
            injection hx with hx
            injection hx with p1 p2 p3
            exact he ⟨by rw [p1], by rw [p2], p3.symm⟩
          by_cases h1 : strOf xk = strOf yk
          · by_cases h2 : strOf xv = strOf yv
            · have h3 : (xg == yg) = false := by
                rw [beq_eq_false_iff_ne]
                exact fun h => he ⟨h1, h2, h⟩
              rw [h1] at a0
              rw [h2] at a1
              generalize strOf yk = ys at *
              generalize strOf yv = yt at *
              replace h1 := Lib.hid h1
              replace h2 := Lib.hid h2
              replace hx := Lib.hid hx
              replace hy := Lib.hid hy
              replace hext := Lib.hid hext
              replace he := Lib.hid he
              clear hsame
              go_wp2
              go_quiet (fail)
              go_wp2
              go_ret
              exact ⟨Says.no hno.out, honly.drewN _⟩
            · have h3 := str_ne h2
              rw [h1] at a0
              generalize strOf xv = vs at *
              generalize strOf yk = ys at *
              generalize strOf yv = yt at *
              replace h1 := Lib.hid h1
              replace h2 := Lib.hid h2
              replace hx := Lib.hid hx
              replace hy := Lib.hid hy
              replace hext := Lib.hid hext
              replace he := Lib.hid he
              clear hsame
              go_wp2
              go_quiet (fail)
              go_wp2
              go_ret
              exact ⟨Says.no hno.out, honly.drewN _⟩
          · have h3 := str_ne h1
            generalize strOf xk = ks at *
            generalize strOf xv = vs at *
            generalize strOf yk = ys at *
            generalize strOf yv = yt at *
            replace h1 := Lib.hid h1
            replace hx := Lib.hid hx
            replace hy := Lib.hid hy
            replace hext := Lib.hid hext
            replace he := Lib.hid he
            clear hsame
            go_wp2
            go_quiet (fail)
            go_wp2
            go_ret
            exact ⟨Says.no hno.out, honly.drewN _⟩
      · have hge : (L.length : Int) ≤ k := by omega
        have hyes : L = M := List.ext_getElem? fun j => by
          by_cases hj : j < k
          · exact hsame.out j hj
          · rw [List.getElem?_eq_none (by omega), List.getElem?_eq_none (by rw [hlenM]; omega)]
        replace hyes := Lib.hid hyes
        clear hsame
        go_wp2
        go_ret
        exact ⟨Says.yes hyes.out, honly⟩
  · have hlen' : ¬ (L.length : Int) = (M.length : Int) := by omega
    have hno : Hid (¬ L = M) := fun h => hlen (by rw [h])
    go_enter Tryz.func23, Tryz.ntmps23
    go_wp2
    go_ret
    exact ⟨Says.no hno.out, Only.refl _ _⟩
end Go.Proofs.YthpjkhmkjhgbkaaGreatDoor
