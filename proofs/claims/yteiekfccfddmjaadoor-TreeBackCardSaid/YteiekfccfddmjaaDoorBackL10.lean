/- TreeBack: what was renamed, and is renamed back, leaves the tree as it was. -/
import Derived.Test.YteiekfccfddmjaaDoorMove2
import Derived.Test.YteiekfccfddmjaaDoorRz10
namespace Go.Proofs.YteiekfccfddmjaaDoor
open Go.RowKit

set_option maxRecDepth 100000 in
set_option maxHeartbeats 8000000 in
theorem treeBack_walk (w : World) (A : Option Addr) (c : Nat) (l : List Nd) (p o : List UInt8) (hb : Els ndE 5 w A l) (hl : l.length ≤ 9223372036854775807) (hc : l.length ≤ c) :
    Calls Tryd.prog 9 #[.slice A l.length c, .string (strOf p), .string (strOf o)] w fun e w' => e = .returned (.bool true) ∧ Only [] w w' := by
  have hG := fun W (k : Only [] w W) => great_any W A c l p o (hb.kept k (by simp)) hl
  have hM := fun W (k : Only [] w W) (h : l.length ≤ 100) (hp : p.length ≤ 1000) (ho : o.length ≤ 1000) => rename_any W A c l p o (hb.kept k (by simp)) hc (by omega) (by omega) (by omega)
  replace hG := Lib.hid hG
  have hcs := renameR_cases l p o
  have hback : (renameR l p o).2 = 0 → renameR (renameR l p o).1 o p = (l, 0) ∧ (renameR l p o).1.length = l.length ∧ l.length ≤ 40 := fun h0 => by
    rcases hcs with ⟨_, h2⟩ | ⟨n, D, na, q, s, hT, ha, hw, h1, hb, hq, hd, hn, hD, hout, ⟨hk, he⟩ | ⟨hm, he⟩⟩
    · exact absurd h0 h2
    · rw [he]
      exact ⟨same_back hT ha hw h1 hn hb hq hd hk, rfl, hT.len⟩
    · rw [he]
      exact ⟨hm.back ha hw hb hq, by simp [movT], hT.len⟩
  have herr : (renameR l p o).2 ≠ 0 → (renameR l p o).1 = [] := fun h0 => by
    rcases hcs with ⟨h1, _⟩ | ⟨n, D, na, q, s, _, _, _, _, _, _, _, _, _, _, ⟨_, he⟩ | ⟨_, he⟩⟩
    · exact h1
    · rw [he] at h0; exact absurd rfl h0
    · rw [he] at h0; exact absurd rfl h0
  clear hcs
  generalize renameR l p o = M at *
  obtain ⟨a, er⟩ := M
  simp only at hM hback herr
  replace hM := Lib.hid hM
  by_cases he : er = 0
  rotate_left
  · have ha := herr he
    subst ha
    have heb : (er != 0) = true := by simpa using he
    clear hback herr
    go_enter Tryd.func9, Tryd.ntmps9
    go_wp2_with fail
    refine (alive_any _).mono ?_; rintro e w1 ⟨rfl, k1⟩
    go_wp2_with fail
    refine (hG.out _ k1).mono ?_; rintro e w2 ⟨⟨r, rfl, hr⟩, rfl⟩
    cases r with
    | true =>
      go_wp2_with fail
      refine (alive_any _).mono ?_; rintro e w3 ⟨rfl, k3⟩
      go_wp2
      go_ret
      exact ⟨rfl, k1.trans k3⟩
    | false =>
    obtain ⟨h100, hp1, ho1⟩ := hr rfl
    clear hr
    go_wp2_with fail
    refine (hM.out _ k1 h100 hp1 ho1).mono ?_; rintro e w3 ⟨v, rfl, m3⟩
    have hk3 := k1.trans m3.only
    obtain ⟨A3, c3, rfl, e3, _⟩ := m3.shape ndE_length
    clear m3
    simp only [List.length_nil]
    go_wp2_with fail
    refine (alive_any _).mono ?_; rintro e w4 ⟨rfl, k4⟩
    go_wp2
    go_ret
    exact ⟨rfl, hk3.trans k4⟩
  subst he
  obtain ⟨hbk, hal, hl40⟩ := hback rfl
  have hM2 := fun W A3 c3 (h3 : Els ndE 5 W A3 a) (hc3 : a.length ≤ c3) (hp : p.length ≤ 1000) (ho : o.length ≤ 1000) => rename_any W A3 c3 a o p h3 hc3 (by omega) (by omega) (by omega)
  rw [hbk] at hM2
  simp only at hM2
  have hsame := fun W A5 c5 (k : Only [] w W) (h5 : Els ndE 5 W A5 l) => rsame_yes W A5 A c5 c l h5 (hb.kept k (by simp)) (by omega)
  replace hsame := Lib.hid hsame
  replace hM2 := Lib.hid hM2
  replace hal := Lib.hid hal
  clear hbk hback herr
  go_enter Tryd.func9, Tryd.ntmps9
  go_wp2_with fail
  refine (alive_any _).mono ?_; rintro e w1 ⟨rfl, k1⟩
  go_wp2_with fail
  refine (hG.out _ k1).mono ?_; rintro e w2 ⟨⟨r, rfl, hr⟩, rfl⟩
  cases r with
  | true =>
    go_wp2_with fail
    refine (alive_any _).mono ?_; rintro e w3 ⟨rfl, k3⟩
    go_wp2
    go_ret
    exact ⟨rfl, k1.trans k3⟩
  | false =>
  obtain ⟨h100, hp1, ho1⟩ := hr rfl
  clear hr
  replace h100 := Lib.hid h100
  replace hp1 := Lib.hid hp1
  replace ho1 := Lib.hid ho1
  go_wp2_with fail
  refine (hM.out _ k1 h100.out hp1.out ho1.out).mono ?_; rintro e w3 ⟨v, rfl, m3⟩
  have hk3 := k1.trans m3.only
  obtain ⟨A3, c3, rfl, e3, hc3, _⟩ := m3.shape ndE_length
  replace hc3 := Lib.hid hc3
  clear m3
  go_wp2_with fail
  refine (hM2.out _ _ _ e3 hc3.out hp1.out ho1.out).mono ?_; rintro e w4 ⟨v4, rfl, m4⟩
  have hk4 := hk3.trans m4.only
  obtain ⟨A4, c4, rfl, e4, _⟩ := m4.shape ndE_length
  clear m4 e3
  go_wp2_with fail
  refine (alive_any _).mono ?_; rintro e w5 ⟨rfl, k5⟩
  have hk5 := hk4.trans k5
  have e5 := e4.kept k5 (by simp)
  clear e4
  go_wp2_with fail
  refine (hsame.out _ _ _ hk5 e5).mono ?_; rintro e w6 ⟨rfl, k6⟩
  go_wp2
  go_ret
  exact ⟨rfl, hk5.trans k6⟩
end Go.Proofs.YteiekfccfddmjaaDoor
