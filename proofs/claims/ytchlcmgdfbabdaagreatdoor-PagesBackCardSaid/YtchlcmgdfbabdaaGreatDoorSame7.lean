/- Same: are two lists of pages the same? -/
import Derived.Test.YtchlcmgdfbabdaaGreatDoorRight7
namespace Go.Proofs.YtchlcmgdfbabdaaGreatDoor.Pgs
open Go.RowKit

theorem pg_ext {x y : Pg} (h1 : x.n = y.n) (h2 : strOf x.d = strOf y.d) : x = y := by
  obtain ⟨a, b⟩ := x
  obtain ⟨a', b'⟩ := y
  simp only at h1 h2
  rw [h1, strOf_inj h2]

set_option maxRecDepth 100000 in
set_option maxHeartbeats 1000000 in
theorem same_any (w : World) (A B : Option Addr) (c d n m : Nat) (L M : List Pg) (hn : n = L.length) (hm : m = M.length) (hA : Els pgE 2 w A L) (hB : Els pgE 2 w B M) (hl : n ≤ 1048576) :
    Calls Tryz.prog 12 #[.slice A n c, .slice B m d] w fun e w' => Says (L = M) e ∧ ∃ k, w' = w.drewN k := by
  by_cases hlen : n = m
  · subst hlen
    have HN := Lib.hid hn
    have HM := Lib.hid hm
    clear hn hm
    go_enter Tryz.func12, Tryz.ntmps12
    go_wp2_with fail
    go_loopw [5] (fun i wr => ∃ k q : Nat, k ≤ n ∧ i = .int .i64 k ∧ Hid (∀ j, j < k → L[j]? = M[j]?) ∧ wr = w.drewN q) (fun i _ => n - (intOf i).toNat)
    case atStart => exact ⟨0, 0, Nat.zero_le _, rfl, fun j hj => by omega, rfl⟩
    case round =>
      obtain ⟨k, q, hk, rfl, hsame, rfl⟩ := hrel
      by_cases hlt : k < n
      · have h1 : k < L.length := by have := HN.out; omega
        have h2 : k < M.length := by have := HM.out; omega
        obtain ⟨g, o, rfl, hg, hat⟩ := hA.get h1
        obtain ⟨g', o', rfl, hg', hat'⟩ := hB.get h2
        obtain ⟨a0, a1⟩ := pgs_at hat h1
        obtain ⟨b0, b1⟩ := pgs_at hat' h2
        have hx : L[k]? = some L[k] := List.getElem?_eq_getElem h1
        have hy : M[k]? = some M[k] := List.getElem?_eq_getElem h2
        have hext : L[k].n = M[k].n → strOf L[k].d = strOf M[k].d → L[k] = M[k] := pg_ext
        generalize L[k] = x at *
        generalize M[k] = y at *
        obtain ⟨xn, xd⟩ := x
        obtain ⟨yn, yd⟩ := y
        simp only at a0 a1 b0 b1 hext
        clear hat hat'
        by_cases he : xn = yn ∧ strOf xd = strOf yd
        · obtain ⟨p1, p2⟩ := he
          have hxy := hext p1 p2
          have hsame2 : Hid (∀ j, j < k + 1 → L[j]? = M[j]?) := fun j hj => by
            by_cases hjk : j = k
            · subst hjk; rw [hx, hy, hxy]
            · exact hsame.out j (by omega)
          rw [p1] at a0
          rw [p2] at a1
          generalize strOf yd = ys at *
          replace hx := Lib.hid hx
          replace hy := Lib.hid hy
          replace hext := Lib.hid hext
          replace p1 := Lib.hid p1
          replace p2 := Lib.hid p2
          clear hsame hxy
          go_wp2
          go_quiet (fail)
          go_wp2
          go_roundw
          case rel => exact ⟨k + 1, _, by omega, by go_num, hsame2, rfl⟩
          case measure => simp [intOf]; omega
        · have hno : Hid (¬ L = M) := fun h => by
            rw [h, hy] at hx
            injection hx with hx
            injection hx with q1 q2
            exact he ⟨q1.symm, by rw [q2]⟩
          by_cases p1 : xn = yn
          · have p2 := str_ne (fun h => he ⟨p1, h⟩)
            rw [p1] at a0
            generalize strOf xd = xs at *
            generalize strOf yd = ys at *
            replace p1 := Lib.hid p1
            replace hx := Lib.hid hx
            replace hy := Lib.hid hy
            replace hext := Lib.hid hext
            replace he := Lib.hid he
            clear hsame
            go_wp2
            go_quiet (fail)
            go_wp2
            go_ret
            exact ⟨Says.no hno.out, _, World.drewN_drewN _ _ _⟩
          · have p3 : (xn == yn) = false := by simpa using p1
            generalize strOf xd = xs at *
            generalize strOf yd = ys at *
            replace p1 := Lib.hid p1
            replace hx := Lib.hid hx
            replace hy := Lib.hid hy
            replace hext := Lib.hid hext
            replace he := Lib.hid he
            clear hsame
            go_wp2
            go_quiet (fail)
            go_wp2
            go_ret
            exact ⟨Says.no hno.out, _, World.drewN_drewN _ _ _⟩
      · have hyes : L = M := List.ext_getElem? fun j => by
          have e1 := HN.out
          have e2 := HM.out
          by_cases hj : j < k
          · exact hsame.out j hj
          · rw [List.getElem?_eq_none (by omega), List.getElem?_eq_none (by omega)]
        replace hyes := Lib.hid hyes
        clear hsame
        go_wp2
        go_ret
        exact ⟨Says.yes hyes.out, _, rfl⟩
  · have hlen' : ¬ (n : Int) = (m : Int) := by omega
    have hno : Hid (¬ L = M) := fun h => hlen (by rw [hn, hm, h])
    clear hn hm hlen
    go_enter Tryz.func12, Tryz.ntmps12
    go_wp2
    go_ret
    exact ⟨Says.no hno.out, 0, rfl⟩
end Go.Proofs.YtchlcmgdfbabdaaGreatDoor.Pgs
