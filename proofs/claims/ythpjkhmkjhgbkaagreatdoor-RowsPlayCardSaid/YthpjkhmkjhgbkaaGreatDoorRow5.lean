/- The document's rows in memory: Find, Same. -/
import Derived.Test.YthpjkhmkjhgbkaaGreatDoorPut5
namespace Go.Proofs.YthpjkhmkjhgbkaaGreatDoor
open Go.RowKit Go.Maps

def rwE (r : Rw) : List Value := [.string (strOf r.key), .string (strOf r.val), .int .i64 (r.at_ : Int)]
theorem rwE_length (r : Rw) : (rwE r).length = 3 := rfl
theorem rwE_one (r : Rw) : ∀ v ∈ rwE r, v.oneCell' = true := by
  intro v hv
  simp [rwE] at hv
  rcases hv with rfl | rfl | rfl <;> rfl
theorem info_rw : (Tryz.prog.info? 81).map (fun i => (i.zero, i.size, i.bytes)) = some (some (.agg #[.string ⟨#[]⟩, .string ⟨#[]⟩, .int .i64 0]), 3, 40) := by kernel_rfl
theorem rws_at {w : World} {g o : Nat} {l : List Rw} (h : ElsAt rwE 3 w g o l) {i : Nat} (hi : i < l.length) : w.cell? ⟨g, o + i * 3, none⟩ = some (.string (strOf l[i].key)) ∧ w.cell? ⟨g, o + i * 3 + 1, none⟩ = some (.string (strOf l[i].val)) ∧ w.cell? ⟨g, o + i * 3 + 2, none⟩ = some (.int .i64 (l[i].at_ : Int)) :=
  ⟨by simpa using h i hi 0 _ rfl, h i hi 1 _ rfl, h i hi 2 _ rfl⟩

/-- Behind Find. -/
def Finds (l : List Rw) (k : List UInt8) (e : Ending) : Prop := (∃ (i : Nat) (r : Rw), l[i]? = some r ∧ r.key = k ∧ e = .returned (.int .i64 (i : Int))) ∨ ((∀ r ∈ l, r.key ≠ k) ∧ e = .returned (.int .i64 (-1)))
theorem Finds.yes {l : List Rw} {k : List UInt8} {i : Nat} {r : Rw} (h : l[i]? = some r) (hk : r.key = k) : Finds l k (.returned (.int .i64 (i : Int))) := .inl ⟨i, r, h, hk, rfl⟩
theorem Finds.no {l : List Rw} {k : List UInt8} (h : ∀ r ∈ l, r.key ≠ k) : Finds l k (.returned (.int .i64 (-1))) := .inr ⟨h, rfl⟩
set_option maxRecDepth 100000 in
set_option maxHeartbeats 1000000 in
theorem rfind_any (w : World) (A : Option Addr) (c : Nat) (l : List Rw) (k : List UInt8) (hb : Els rwE 3 w A l) (hl : l.length ≤ 1048576) :
    Calls Tryz.prog 33 #[.slice A l.length c, .string (strOf k)] w fun e w' => Finds l k e ∧ Only [] w w' := by
  have hlI : (l.length : Int) ≤ 1048576 := by omega
  have hbe := fun x : List UInt8 => beq_toList x k
  generalize strOf k = kb at *
  replace hbe := Lib.hid hbe
  go_enter Tryz.func33, Tryz.ntmps33
  go_wp2_with fail
  go_loopw [5] (fun i wr => ∃ n : Nat, n ≤ l.length ∧ i = .int .i64 n ∧ Hid (∀ (j : Nat) x, j < n → l[j]? = some x → x.key ≠ k) ∧ Only [] w wr) (fun i _ => l.length - (intOf i).toNat)
  case atStart => exact ⟨0, Nat.zero_le _, rfl, fun j x hj => by omega, Only.refl _ _⟩
  case round =>
    obtain ⟨n, hn, rfl, hgood, hk⟩ := hrel
    by_cases hlt : n < l.length
    · obtain ⟨g, o, rfl, hg, hat⟩ := hb.get hlt
      obtain ⟨c0, _, _⟩ := rws_at (hat.kept hk (by simp)) hlt
      have hx : l[n]? = some l[n] := List.getElem?_eq_getElem hlt
      have hbx := hbe.out l[n].key
      generalize l[n] = x at *
      by_cases he : x.key = k
      · have hb1 : ((strOf x.key).toList == kb.toList) = true := by rw [hbx]; simpa using he
        have hfin := Finds.yes hx he
        generalize strOf x.key = ks at *
        replace hfin := Lib.hid hfin
        replace hbx := Lib.hid hbx
        replace hx := Lib.hid hx
        replace he := Lib.hid he
        clear hgood
        go_wp2
        go_ret
        exact ⟨hfin.out, hk⟩
      · have hb1 : ((strOf x.key).toList == kb.toList) = false := by rw [hbx]; simpa using he
        have hnext : Hid (∀ (j : Nat) x, j < n + 1 → l[j]? = some x → x.key ≠ k) := fun j y hj hy => by
          by_cases hjn : j = n
          · subst hjn
            rw [hx] at hy
            injection hy with hy
            subst hy
            exact he
          · exact hgood.out j y (by omega) hy
        generalize strOf x.key = ks at *
        replace hbx := Lib.hid hbx
        replace hx := Lib.hid hx
        replace he := Lib.hid he
        clear hgood
        go_wp2
        go_roundw
        case rel => exact ⟨n + 1, by omega, by go_num, hnext, hk⟩
        case measure => simp [intOf]; omega
    · have hge : (l.length : Int) ≤ n := by omega
      have hfin : Finds l k (.returned (.int .i64 (-1))) := Finds.no fun r hr => by
        obtain ⟨i, hi, rfl⟩ := List.getElem_of_mem hr
        exact hgood.out i _ (by omega) (List.getElem?_eq_getElem hi)
      replace hfin := Lib.hid hfin
      clear hgood
      go_wp2
      go_ret
      exact ⟨hfin.out, hk⟩

set_option maxRecDepth 100000 in
set_option maxHeartbeats 2000000 in
theorem rsame_any (w : World) (A B : Option Addr) (c d : Nat) (L : List Rw) (M : List Ch) (hA : Els rwE 3 w A L) (hB : Els chE 3 w B M) (hl : L.length ≤ 1048576) :
    Calls Tryz.prog 15 #[.slice A L.length c, .slice B M.length d] w fun e w' => Says (L.map chOf = M) e ∧ Only [] w w' := by
  by_cases hlen : L.length = M.length
  · have hlI : (L.length : Int) ≤ 1048576 := by omega
    rw [← hlen]
    have hlenM : M.length = L.length := hlen.symm
    replace hlen := Lib.hid hlen
    go_enter Tryz.func15, Tryz.ntmps15
    go_wp2_with fail
    go_loopw [5] (fun i wr => ∃ k : Nat, k ≤ L.length ∧ i = .int .i64 k ∧ Hid (∀ (j : Nat) r, j < k → L[j]? = some r → M[j]? = some (chOf r)) ∧ Only [] w wr) (fun i _ => L.length - (intOf i).toNat)
    case atStart => exact ⟨0, Nat.zero_le _, rfl, fun j r hj => by omega, Only.refl _ _⟩
    case round =>
      obtain ⟨k, hk, rfl, hsame, honly⟩ := hrel
      by_cases hlt : k < L.length
      · obtain ⟨g, o, rfl, hg, hat⟩ := hA.get hlt
        obtain ⟨g', o', rfl, hg', hat'⟩ := hB.get (i := k) (by omega)
        obtain ⟨a0, a1, _⟩ := rws_at (hat.kept honly (by simp)) hlt
        obtain ⟨b0, b1, b2⟩ := chs_at (hat'.kept honly (by simp)) (i := k) (by omega)
        have hx : L[k]? = some L[k] := List.getElem?_eq_getElem hlt
        have hy : M[k]? = some (M[k]'(by omega)) := List.getElem?_eq_getElem (by omega)
        generalize L[k] = x at *
        generalize M[k]'(by omega) = y at *
        obtain ⟨yk, yv, yg⟩ := y
        simp only at b0 b1 b2
        have hno : ∀ (P : ¬ (⟨yk, yv, yg⟩ : Ch) = chOf x), Hid (¬ L.map chOf = M) := fun P h => by
          have : (L.map chOf)[k]? = some (chOf x) := by rw [List.getElem?_map, hx]; rfl
          rw [h, hy] at this
          injection this with this
          exact P this
        have hnext : (⟨yk, yv, yg⟩ : Ch) = chOf x → Hid (∀ (j : Nat) r, j < k + 1 → L[j]? = some r → M[j]? = some (chOf r)) := fun P j r hj hr => by
          by_cases hjk : j = k
          · subst hjk
            rw [hx] at hr
            injection hr with hr
            subst hr
            rw [hy, P]
          · exact hsame.out j r (by omega) hr
        have hch : chOf x = ⟨x.key, x.val, false⟩ := rfl
        rw [hch] at hno hnext
        generalize x.key = xk at *
        generalize x.val = xv at *
        replace hx := Lib.hid hx
        replace hy := Lib.hid hy
        replace hch := Lib.hid hch
        replace hno := Lib.hid hno
        replace hnext := Lib.hid hnext
        clear hsame
        cases yg with
        | true =>
          have hno' := hno.out (by simp)
          go_wp2
          go_quiet (fail)
          go_wp2
          go_ret
          exact ⟨Says.no hno'.out, honly.drewN _⟩
        | false =>
          by_cases h1 : yk = xk
          · subst h1
            by_cases h2 : yv = xv
            · subst h2
              have hnx := hnext.out rfl
              generalize strOf yk = ks at *
              generalize strOf yv = vs at *
              go_wp2
              go_quiet (fail)
              go_wp2
              go_roundw
              case rel => exact ⟨k + 1, by omega, by go_num, hnx, honly.drewN _⟩
              case measure => simp [intOf]; omega
            · have hno' := hno.out (fun h => h2 (by injection h))
              have h3 : ((strOf yv).toList == (strOf xv).toList) = false := by rw [beq_toList]; simpa using h2
              generalize strOf yk = ks at *
              generalize strOf yv = vs at *
              generalize strOf xv = us at *
              replace h2 := Lib.hid h2
              go_wp2
              go_quiet (fail)
              go_wp2
              go_ret
              exact ⟨Says.no hno'.out, honly.drewN _⟩
          · have hno' := hno.out (fun h => h1 (by injection h))
            have h3 : ((strOf yk).toList == (strOf xk).toList) = false := by rw [beq_toList]; simpa using h1
            generalize strOf yk = ks at *
            generalize strOf xk = ts at *
            generalize strOf yv = vs at *
            generalize strOf xv = us at *
            replace h1 := Lib.hid h1
            go_wp2
            go_quiet (fail)
            go_wp2
            go_ret
            exact ⟨Says.no hno'.out, honly.drewN _⟩
      · have hge : (L.length : Int) ≤ k := by omega
        have hyes : L.map chOf = M := List.ext_getElem? fun j => by
          by_cases hj : j < L.length
          · rw [List.getElem?_map, List.getElem?_eq_getElem hj, hsame.out j _ (by omega) (List.getElem?_eq_getElem hj)]
            rfl
          · rw [List.getElem?_eq_none (by simp; omega), List.getElem?_eq_none (by omega)]
        replace hyes := Lib.hid hyes
        clear hsame
        go_wp2
        go_ret
        exact ⟨Says.yes hyes.out, honly⟩
  · have hlen' : ¬ (L.length : Int) = (M.length : Int) := by omega
    have hno : Hid (¬ L.map chOf = M) := fun h => hlen (by rw [← h]; simp)
    go_enter Tryz.func15, Tryz.ntmps15
    go_wp2
    go_ret
    exact ⟨Says.no hno.out, Only.refl _ _⟩
end Go.Proofs.YthpjkhmkjhgbkaaGreatDoor
