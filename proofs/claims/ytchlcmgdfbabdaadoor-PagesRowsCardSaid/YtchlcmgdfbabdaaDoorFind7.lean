/- The document's Find; whether two lists of changes are the same. -/
import Derived.Test.YtchlcmgdfbabdaaDoorRef7
namespace Go.Proofs.YtchlcmgdfbabdaaDoor.Pgs
open Go.RowKit

set_option maxRecDepth 100000 in
theorem find_any (w : World) (A : Option Addr) (c n : Nat) (o : List Pg) (h : Obj7 w A n o) (q : Nat) :
    Calls Tryd.prog 38 #[.slice A n c, .int .i64 (q : Int)] w fun e w' => e = .returned (.string (strOf (findS o q))) ∧ w' = w := by
  have hn := h.few
  have H := Lib.hid h
  clear h
  go_enter Tryd.func38, Tryd.ntmps38
  go_wp2_with fail
  go_loopw [5] (fun i wr => ∃ k : Nat, k ≤ n ∧ i = .int .i64 k ∧ Hid (find o q = find (o.drop k) q) ∧ wr = w) (fun i _ => n - (intOf i).toNat)
  case atStart => exact ⟨0, by omega, rfl, rfl, rfl⟩
  case round =>
    obtain ⟨k, hk, rfl, hf, rfl⟩ := hrel
    by_cases hlt : k < n
    · have hk' : k < o.length := by have := H.out.len; omega
      obtain ⟨g, off, rfl, _, hat⟩ := H.out.els.get hk'
      obtain ⟨c0, c1⟩ := pgs_at hat hk'
      have hmem := okP_mem o (-1) H.out.okay o[k] (List.getElem_mem hk')
      have hd : o.drop k = o[k] :: o.drop (k + 1) := List.drop_eq_getElem_cons hk'
      generalize o[k] = p at *
      obtain ⟨N, d⟩ := p
      simp only at c0 c1 hmem
      obtain ⟨m0, m1, m2, m3⟩ := hmem
      obtain ⟨m, rfl⟩ : ∃ m : Nat, N = m := ⟨N.toNat, by omega⟩
      have hm : m < 32 := by omega
      clear m0 m1 hat
      have hf' := hf.out
      rw [hd, find] at hf'
      generalize hs : strOf d = s at *
      replace hs := Lib.hid hs
      replace hd := Lib.hid hd
      clear hf
      by_cases he : (m : Int) = (q : Int)
      · have hans : findS o q = d := by
          unfold findS
          rw [hf', if_pos he, m3]
          rfl
        have heq : ((m : Int) == (q : Int)) = true := by simpa using he
        replace hans := Lib.hid hans
        replace hf' := Lib.hid hf'
        replace he := Lib.hid he
        go_wp2
        go_ret
        exact ⟨by rw [hans.out, hs.out]; rfl, rfl⟩
      · have hnext : Hid (find o q = find (o.drop (k + 1)) q) := by
          show find o q = _
          rw [hf', if_neg he]
        have hne : ((m : Int) == (q : Int)) = false := by simpa using he
        clear hf'
        replace he := Lib.hid he
        go_wp2
        go_roundw
        case rel => exact ⟨k + 1, by omega, by go_num, hnext, trivial⟩
        case measure => simp [intOf]; omega
    · have hans : findS o q = [] := by
        unfold findS
        rw [hf.out, List.drop_of_length_le (by have := H.out.len; omega), find, allZ_zs]
        rfl
      replace hans := Lib.hid hans
      clear hf
      go_wp2
      go_ret
      exact ⟨by rw [hans.out]; rfl, rfl⟩

theorem ch_ext {x y : Ch} (h1 : strOf x.key = strOf y.key) (h2 : strOf x.val = strOf y.val) (h3 : x.gone = y.gone) : x = y := by
  obtain ⟨a, b, c⟩ := x
  obtain ⟨a', b', c'⟩ := y
  simp only at h1 h2 h3
  rw [strOf_inj h1, strOf_inj h2, h3]
set_option maxRecDepth 100000 in
set_option maxHeartbeats 1000000 in
theorem sameCh_any (w : World) (A B : Option Addr) (c d : Nat) (L M : List Ch) (hA : Els chE 3 w A L) (hB : Els chE 3 w B M) (hl : L.length ≤ 1048576) :
    Calls Tryd.prog 26 #[.slice A L.length c, .slice B M.length d] w fun e w' => Says (L = M) e ∧ ∃ k, w' = w.drewN k := by
  by_cases hlen : L.length = M.length
  · have hlen' : (L.length : Int) = (M.length : Int) := by omega
    rw [← hlen]
    have hlenM : M.length = L.length := hlen.symm
    replace hlen := Lib.hid hlen
    clear hlen'
    go_enter Tryd.func26, Tryd.ntmps26
    go_wp2_with fail
    go_loopw [5] (fun i wr => ∃ k : Nat, k ≤ L.length ∧ i = .int .i64 k ∧ Hid (∀ j, j < k → L[j]? = M[j]?) ∧ ∃ q : Nat, wr = w.drewN q) (fun i _ => L.length - (intOf i).toNat)
    case atStart => exact ⟨0, Nat.zero_le _, rfl, fun j hj => by omega, 0, rfl⟩
    case round =>
      obtain ⟨k, hk, rfl, hsame, q, rfl⟩ := hrel
      by_cases hlt : k < L.length
      · obtain ⟨g, o, rfl, hg, hat⟩ := hA.get hlt
        obtain ⟨g', o', rfl, hg', hat'⟩ := hB.get (i := k) (by omega)
        obtain ⟨a0, a1, a2⟩ := chs_at hat hlt
        obtain ⟨b0, b1, b2⟩ := chs_at hat' (i := k) (by omega)
        have hx : L[k]? = some L[k] := List.getElem?_eq_getElem hlt
        have hy : M[k]? = some (M[k]'(by omega)) := List.getElem?_eq_getElem (by omega)
        have hext : strOf L[k].key = strOf (M[k]'(by omega)).key → strOf L[k].val = strOf (M[k]'(by omega)).val → L[k].gone = (M[k]'(by omega)).gone → L[k] = M[k]'(by omega) := ch_ext
        generalize L[k] = x at *
        generalize M[k]'(by omega) = y at *
        obtain ⟨xk, xv, xg⟩ := x
        obtain ⟨yk, yv, yg⟩ := y
        simp only at a0 a1 a2 b0 b1 b2 hext
        by_cases he : strOf xk = strOf yk ∧ strOf xv = strOf yv ∧ xg = yg
        · obtain ⟨h1, h2, h3⟩ := he
          have hxy := hext h1 h2 h3
          have hsame2 : Hid (∀ j, j < k + 1 → L[j]? = M[j]?) := fun j hj => by
            by_cases hjk : j = k
            · subst hjk; rw [hx, hy, hxy]
            · exact hsame.out j (by omega)
          rw [h1] at a0
          rw [h2] at a1
          rw [h3] at a2
          generalize strOf yk = ys at *
          generalize strOf yv = yt at *
          replace hx := Lib.hid hx
          replace hy := Lib.hid hy
          replace hext := Lib.hid hext
          replace h1 := Lib.hid h1
          replace h2 := Lib.hid h2
          replace h3 := Lib.hid h3
          clear hsame hxy
          go_wp2
          go_quiet (fail)
          go_wp2
          go_roundw
          case rel => exact ⟨k + 1, by omega, by go_num, hsame2, _, rfl⟩
          case measure => simp [intOf]; omega
        · have hno : Hid (¬ L = M) := fun h => by
            rw [h, hy] at hx
            injection hx with hx
            injection hx with p1 p2 p3
            exact he ⟨by rw [p1], by rw [p2], p3.symm⟩
          by_cases h1 : strOf xk = strOf yk
          · by_cases h2 : strOf xv = strOf yv
            · have h3 : (xg == yg) = false := by
                rw [beq_eq_false_iff_ne]
                exact fun h => he ⟨h1, h2, h⟩
              rw [h1] at a0
              rw [h2] at a1
              generalize strOf yk = ys at *
              generalize strOf yv = yt at *
              replace h1 := Lib.hid h1
              replace h2 := Lib.hid h2
              replace hx := Lib.hid hx
              replace hy := Lib.hid hy
              replace hext := Lib.hid hext
              replace he := Lib.hid he
              clear hsame
              go_wp2
              go_quiet (fail)
              go_wp2
              go_ret
              exact ⟨Says.no hno.out, _, World.drewN_drewN _ _ _⟩
            · have h3 := str_ne h2
              rw [h1] at a0
              generalize strOf xv = vs at *
              generalize strOf yk = ys at *
              generalize strOf yv = yt at *
              replace h1 := Lib.hid h1
              replace h2 := Lib.hid h2
              replace hx := Lib.hid hx
              replace hy := Lib.hid hy
              replace hext := Lib.hid hext
              replace he := Lib.hid he
              clear hsame
              go_wp2
              go_quiet (fail)
              go_wp2
              go_ret
              exact ⟨Says.no hno.out, _, World.drewN_drewN _ _ _⟩
          · have h3 := str_ne h1
            generalize strOf xk = ks at *
            generalize strOf xv = vs at *
            generalize strOf yk = ys at *
            generalize strOf yv = yt at *
            replace h1 := Lib.hid h1
            replace hx := Lib.hid hx
            replace hy := Lib.hid hy
            replace hext := Lib.hid hext
            replace he := Lib.hid he
            clear hsame
            go_wp2
            go_quiet (fail)
            go_wp2
            go_ret
            exact ⟨Says.no hno.out, _, World.drewN_drewN _ _ _⟩
      · have hge : (L.length : Int) ≤ k := by omega
        have hyes : L = M := List.ext_getElem? fun j => by
          by_cases hj : j < k
          · exact hsame.out j hj
          · rw [List.getElem?_eq_none (by omega), List.getElem?_eq_none (by rw [hlenM]; omega)]
        replace hyes := Lib.hid hyes
        clear hsame
        go_wp2
        go_ret
        exact ⟨Says.yes hyes.out, _, rfl⟩
  · have hlen' : ¬ (L.length : Int) = (M.length : Int) := by omega
    have hno : Hid (¬ L = M) := fun h => hlen (by rw [h])
    go_enter Tryd.func26, Tryd.ntmps26
    go_wp2
    go_ret
    exact ⟨Says.no hno.out, 0, rfl⟩
end Go.Proofs.YtchlcmgdfbabdaaDoor.Pgs
