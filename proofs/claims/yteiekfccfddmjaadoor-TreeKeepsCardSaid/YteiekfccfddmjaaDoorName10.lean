/- What a name is: the program's named, the document's Name. -/
import Derived.Test.YteiekfccfddmjaaDoorDep10
import Derived.Test.YteiekfccfddmjaaDoorShelf10
namespace Go.Proofs.YteiekfccfddmjaaDoor
open Go.RowKit

def signs : List UInt8 := [97, 98, 99, 100, 101, 102, 103, 104, 105, 106, 107, 108, 109, 110, 111, 112, 113, 114, 115, 116, 117, 118, 119, 120, 121, 122, 48, 49, 50, 51, 52, 53, 54, 55, 56, 57, 46, 95, 45]
theorem signs_fin : ∀ n : Fin 256, (Lib.indexByte signs (UInt8.ofNat n.val) < 0 ↔ okC (UInt8.ofNat n.val) = false) := by decide +kernel
theorem signs_any (c : UInt8) : Lib.indexByte signs c < 0 ↔ okC c = false := by
  have := signs_fin ⟨c.toNat, c.toNat_lt⟩
  simpa using this
theorem okC_iff (c : UInt8) : okC c = true ↔ ((97 ≤ c.toNat ∧ c.toNat ≤ 122) ∨ (48 ≤ c.toNat ∧ c.toNat ≤ 57) ∨ c.toNat = 46 ∨ c.toNat = 95 ∨ c.toNat = 45) := by
  unfold okC
  simp only [Bool.or_eq_true, Bool.and_eq_true, decide_eq_true_eq, beq_iff_eq, or_assoc]

theorem nmB_iff (s : List UInt8) : nmB s = true ↔ (1 ≤ s.length ∧ s.length ≤ 8 ∧ s ≠ [46] ∧ s ≠ [46, 46] ∧ ∀ c ∈ s, okC c = true) := by
  unfold nmB
  simp only [Bool.and_eq_true, decide_eq_true_eq, Bool.not_eq_true', beq_eq_false_iff_ne, List.all_eq_true, and_assoc, ne_eq]
theorem nmB_no {s : List UInt8} (h : ¬ (1 ≤ s.length ∧ s.length ≤ 8 ∧ s ≠ [46] ∧ s ≠ [46, 46] ∧ ∀ c ∈ s, okC c = true)) : nmB s = false := by
  cases hb : nmB s
  · rfl
  · exact absurd ((nmB_iff s).1 hb) h
theorem all_of_get {s : List UInt8} (h : ∀ j (hj : j < s.length), okC s[j] = true) : ∀ c ∈ s, okC c = true := by
  intro c hc
  obtain ⟨j, hj, rfl⟩ := List.getElem_of_mem hc
  exact h j hj

set_option maxRecDepth 100000 in
set_option maxHeartbeats 2000000 in
theorem named_any (w : World) (s : List UInt8) :
    Calls Tryd.prog 39 #[.string (strOf s)] w fun e w' => e = .returned (.bool (nmB s)) ∧ w' = w := by
  have hsz := strOf_size s
  have E0 : ((strOf s).toList == ([] : List UInt8)) = (s == []) := by rw [show (strOf s).toList = s from ByteArray.toList_mk _]
  have E1 : ((strOf s).toList == [46]) = (s == [46]) := by rw [show (strOf s).toList = s from ByteArray.toList_mk _]
  have E2 : ((strOf s).toList == [46, 46]) = (s == [46, 46]) := by rw [show (strOf s).toList = s from ByteArray.toList_mk _]
  have hix := fun (i : Nat) (x : Int) (hx : x = i) (h : i < s.length) => index_strOf (P := Tryd.prog) 9 Tryd.underlying9 s i x .i64 hx h
  generalize strOf s = sb at *
  replace hix := Lib.hid hix
  replace E0 := Lib.hid E0
  replace E1 := Lib.hid E1
  replace E2 := Lib.hid E2
  obtain ⟨r, hr⟩ : ∃ r, r = nmB s := ⟨_, rfl⟩
  rw [← hr]
  have HR := Lib.hid hr
  clear hr
  have HZ := Lib.hid hsz
  clear hsz
  by_cases h0 : s = []
  · have hr' : r = false := by rw [HR.out]; exact nmB_no (by rw [h0]; simp)
    have e0 : (sb.toList == ([] : List UInt8)) = true := by rw [E0.out, h0]; rfl
    subst hr'
    go_enter Tryd.func39, Tryd.ntmps39
    go_wp2
    go_ret
    exact ⟨rfl, rfl⟩
  have e0 : (sb.toList == ([] : List UInt8)) = false := by rw [E0.out]; simpa using h0
  by_cases h1 : s = [46]
  · have hr' : r = false := by rw [HR.out]; exact nmB_no (fun h => h.2.2.1 h1)
    have e1 : (sb.toList == [46]) = true := by rw [E1.out, h1]; rfl
    subst hr'
    clear h0
    go_enter Tryd.func39, Tryd.ntmps39
    go_wp2
    go_ret
    exact ⟨rfl, rfl⟩
  have e1 : (sb.toList == [46]) = false := by rw [E1.out]; simpa using h1
  by_cases h2 : s = [46, 46]
  · have hr' : r = false := by rw [HR.out]; exact nmB_no (fun h => h.2.2.2.1 h2)
    have e2 : (sb.toList == [46, 46]) = true := by rw [E2.out, h2]; rfl
    subst hr'
    clear h0 h1
    go_enter Tryd.func39, Tryd.ntmps39
    go_wp2
    go_ret
    exact ⟨rfl, rfl⟩
  have e2 : (sb.toList == [46, 46]) = false := by rw [E2.out]; simpa using h2
  by_cases h8 : s.length ≤ 8
  · have hyes : (∀ c ∈ s, okC c = true) → r = true := fun h => by rw [HR.out, nmB_iff]; exact ⟨List.length_pos_iff.2 h0, h8, h1, h2, h⟩
    have hno : ∀ c ∈ s, okC c = false → r = false := fun c hc h => by rw [HR.out]; exact nmB_no (fun hh => by have := hh.2.2.2.2 c hc; rw [h] at this; cases this)
    replace hyes := Lib.hid hyes
    replace hno := Lib.hid hno
    clear h0 h1 h2
    have hs8 : (sb.size : Int) ≤ 8 := by have := HZ.out; omega
    have hd8 : decide ((8 : Int) < (sb.size : Int)) = false := by simp; omega
    go_enter Tryd.func39, Tryd.ntmps39
    go_wp2_with fail
    go_loopw [21] (fun i wr => ∃ n : Nat, n ≤ s.length ∧ i = .int .i64 n ∧ Hid (∀ j (hj : j < s.length), j < n → okC s[j] = true) ∧ wr = w) (fun i _ => s.length - (intOf i).toNat)
    case atStart => exact ⟨0, Nat.zero_le _, rfl, fun j hj h => by omega, rfl⟩
    case round =>
      obtain ⟨n, hn, rfl, hgood, rfl⟩ := hrel
      have hbn : n < s.length → (n : Int) < (sb.size : Int) := fun h => by have := HZ.out; omega
      have hbe : ¬ n < s.length → ¬ (n : Int) < (sb.size : Int) := fun h => by have := HZ.out; omega
      by_cases hlt : n < s.length
      · have hltI := hbn hlt
        clear hbn hbe
        have hx := hix.out n n rfl hlt
        have hcc : (s.getD n 0) = s[n] := by simp [hlt]
        rw [hcc] at hx
        have hsg := signs_any s[n]
        have hmem : s[n] ∈ s := List.getElem_mem hlt
        have hnos := hno.out s[n] hmem
        have hind : ∀ W, Calls Tryd.prog 65 #[.string (strOf signs), .int .u8 (s[n].toNat : Nat)] W fun e w' => e = .returned (.int .i64 (Lib.indexByte signs s[n])) ∧ w' = W := fun W => by
          have := Tryd.strings_IndexByte (strOf signs) (s[n].toNat : Nat) W
          rwa [strOf_list, show ((s[n].toNat : Nat) : Int).toNat.toUInt8 = s[n] by simp] at this
        have hsgs : strOf signs = ⟨#[97, 98, 99, 100, 101, 102, 103, 104, 105, 106, 107, 108, 109, 110, 111, 112, 113, 114, 115, 116, 117, 118, 119, 120, 121, 122, 48, 49, 50, 51, 52, 53, 54, 55, 56, 57, 46, 95, 45]⟩ := rfl
        rw [hsgs] at hind
        clear hsgs
        have hnext : okC s[n] = true → Hid (∀ j (hj : j < s.length), j < n + 1 → okC s[j] = true) := fun h j hj hjn => by
          by_cases e : j = n
          · subst e; exact h
          · exact hgood.out j hj (by omega)
        generalize s[n] = ch at *
        generalize Lib.indexByte signs ch = v at *
        replace hind := Lib.hid hind
        replace hmem := Lib.hid hmem
        by_cases hv : v < 0
        · have hr' := hnos (hsg.1 hv)
          subst hr'
          clear hsg hnext hgood
          go_wp2_with fail
          refine (hind.out _).mono ?_; rintro e w3 ⟨rfl, rfl⟩
          go_wp2
          go_ret
          exact ⟨rfl, rfl⟩
        · have hnext' := hnext (by
            cases hb : okC ch
            · exact absurd (hsg.2 hb) hv
            · rfl)
          replace hnos := Lib.hid hnos
          clear hsg hnext hgood
          go_wp2_with fail
          refine (hind.out _).mono ?_; rintro e w3 ⟨rfl, rfl⟩
          go_wp2
          go_roundw
          case rel => exact ⟨n + 1, by omega, by go_num, hnext', by trivial⟩
          case measure => simp [intOf]; omega
      · have hltI := hbe hlt
        clear hbn hbe
        have hr' := hyes.out (all_of_get fun j hj => hgood.out j hj (by omega))
        subst hr'
        clear hgood
        go_wp2
        go_ret
        exact ⟨rfl, rfl⟩
  · have hr' : r = false := by rw [HR.out]; exact nmB_no (fun h => h8 h.2.1)
    have hs9 : (8 : Int) < (sb.size : Int) := by have := HZ.out; omega
    have hd9 : decide ((8 : Int) < (sb.size : Int)) = true := by simpa using hs9
    subst hr'
    clear h0 h1 h2
    go_enter Tryd.func39, Tryd.ntmps39
    go_wp2
    go_ret
    exact ⟨rfl, rfl⟩

theorem tf (p : Prop) [Decidable p] : decide p = true ∨ decide p = false := by cases decide p <;> simp
set_option maxRecDepth 100000 in
set_option maxHeartbeats 4000000 in
theorem rname_any (w : World) (s : List UInt8) :
    Calls Tryd.prog 34 #[.string (strOf s)] w fun e w' => e = .returned (.bool (nmB s)) ∧ w' = w := by
  have hsz := strOf_size s
  have E1 : ((strOf s).toList == [46]) = (s == [46]) := by rw [show (strOf s).toList = s from ByteArray.toList_mk _]
  have E2 : ((strOf s).toList == [46, 46]) = (s == [46, 46]) := by rw [show (strOf s).toList = s from ByteArray.toList_mk _]
  have hix := fun (i : Nat) (x : Int) (hx : x = i) (h : i < s.length) => index_strOf (P := Tryd.prog) 9 Tryd.underlying9 s i x .i64 hx h
  generalize strOf s = sb at *
  replace hix := Lib.hid hix
  replace E1 := Lib.hid E1
  replace E2 := Lib.hid E2
  obtain ⟨r, hr⟩ : ∃ r, r = nmB s := ⟨_, rfl⟩
  rw [← hr]
  have HR := Lib.hid hr
  clear hr
  have HZ := Lib.hid hsz
  clear hsz
  by_cases h0 : s.length < 1
  · have hr' : r = false := by rw [HR.out]; exact nmB_no (fun h => by have := h.1; omega)
    have hs0 : (sb.size : Int) < 1 := by have := HZ.out; omega
    have hd0 : decide ((sb.size : Int) < 1) = true := by simpa using hs0
    subst hr'
    go_enter Tryd.func34, Tryd.ntmps34
    go_wp2
    go_ret
    exact ⟨rfl, rfl⟩
  have hs0 : ¬ (sb.size : Int) < 1 := by have := HZ.out; omega
  have hd0 : decide ((sb.size : Int) < 1) = false := by simpa using hs0
  by_cases h8 : 8 < s.length
  · have hr' : r = false := by rw [HR.out]; exact nmB_no (fun h => by have := h.2.1; omega)
    have hs9 : (8 : Int) < (sb.size : Int) := by have := HZ.out; omega
    have hd9 : decide ((8 : Int) < (sb.size : Int)) = true := by simpa using hs9
    subst hr'
    go_enter Tryd.func34, Tryd.ntmps34
    go_wp2
    go_ret
    exact ⟨rfl, rfl⟩
  have hs8 : ¬ (8 : Int) < (sb.size : Int) := by have := HZ.out; omega
  have hd8 : decide ((8 : Int) < (sb.size : Int)) = false := by simpa using hs8
  by_cases h1 : s = [46]
  · have hr' : r = false := by rw [HR.out]; exact nmB_no (fun h => h.2.2.1 h1)
    have e1 : (sb.toList == [46]) = true := by rw [E1.out, h1]; rfl
    subst hr'
    clear h0 h1 h8
    go_enter Tryd.func34, Tryd.ntmps34
    go_wp2
    go_ret
    exact ⟨rfl, rfl⟩
  have e1 : (sb.toList == [46]) = false := by rw [E1.out]; simpa using h1
  by_cases h2 : s = [46, 46]
  · have hr' : r = false := by rw [HR.out]; exact nmB_no (fun h => h.2.2.2.1 h2)
    have e2 : (sb.toList == [46, 46]) = true := by rw [E2.out, h2]; rfl
    subst hr'
    clear h0 h1 h8 h2
    go_enter Tryd.func34, Tryd.ntmps34
    go_wp2
    go_ret
    exact ⟨rfl, rfl⟩
  have e2 : (sb.toList == [46, 46]) = false := by rw [E2.out]; simpa using h2
  have hyes : (∀ c ∈ s, okC c = true) → r = true := fun h => by rw [HR.out, nmB_iff]; exact ⟨by omega, by omega, h1, h2, h⟩
  have hno : ∀ c ∈ s, okC c = false → r = false := fun c hc h => by rw [HR.out]; exact nmB_no (fun hh => by have := hh.2.2.2.2 c hc; rw [h] at this; cases this)
  replace hyes := Lib.hid hyes
  replace hno := Lib.hid hno
  clear h1 h2
  go_enter Tryd.func34, Tryd.ntmps34
  go_wp2_with fail
  go_loopw [3] (fun i wr => ∃ n : Nat, n ≤ s.length ∧ i = .int .i64 n ∧ Hid (∀ j (hj : j < s.length), j < n → okC s[j] = true) ∧ wr = w) (fun i _ => s.length - (intOf i).toNat)
  case atStart => exact ⟨0, Nat.zero_le _, rfl, fun j hj h => by omega, rfl⟩
  case round =>
    obtain ⟨n, hn, rfl, hgood, rfl⟩ := hrel
    have hbn : n < s.length → (n : Int) < (sb.size : Int) := fun h => by have := HZ.out; omega
    have hbe : ¬ n < s.length → ¬ (n : Int) < (sb.size : Int) := fun h => by have := HZ.out; omega
    by_cases hlt : n < s.length
    · have hltI := hbn hlt
      clear hbn hbe
      have hx := hix.out n n rfl hlt
      have hcc : (s.getD n 0) = s[n] := by simp [hlt]
      rw [hcc] at hx
      have hok := okC_iff s[n]
      have hmem : s[n] ∈ s := List.getElem_mem hlt
      have hnos := hno.out s[n] hmem
      have hnext : okC s[n] = true → Hid (∀ j (hj : j < s.length), j < n + 1 → okC s[j] = true) := fun h j hj hjn => by
        by_cases e : j = n
        · subst e; exact h
        · exact hgood.out j hj (by omega)
      clear hcc
      replace hmem := Lib.hid hmem
      generalize s[n] = ch at *
      generalize hch : ch.toNat = x at *
      replace hch := Lib.hid hch
      by_cases hg : okC ch = true
      · have hnext' := hnext hg
        have hcase := hok.1 hg
        replace hnos := Lib.hid hnos
        clear hok hnext hgood hg
        rcases hcase with ⟨ha, hb⟩ | ⟨ha, hb⟩ | rfl | rfl | rfl
        all_goals
          go_wp2
          go_roundw
          case rel => exact ⟨n + 1, by omega, by go_num, hnext', by trivial⟩
          case measure => simp [intOf]; omega
      · have hr' := hnos (by simpa using hg)
        subst hr'
        have hcase : x < 45 ∨ (47 ≤ x ∧ x ≤ 47) ∨ (58 ≤ x ∧ x ≤ 94) ∨ (96 ≤ x ∧ x ≤ 96) ∨ 123 ≤ x := by
          have : ¬ _ := fun h => hg (hok.2 h)
          omega
        clear hok hnext hgood hg hnos
        rcases hcase with ha | ⟨ha, hb⟩ | ⟨ha, hb⟩ | ⟨ha, hb⟩ | ha
        all_goals
          have g1 : ((x : Int) == 46) = false := by rw [beq_eq_false_iff_ne]; omega
          have g2 : ((x : Int) == 95) = false := by rw [beq_eq_false_iff_ne]; omega
          have g3 : ((x : Int) == 45) = false := by rw [beq_eq_false_iff_ne]; omega
          rcases tf ((97 : Int) ≤ (x : Int)) with d1 | d1 <;> first | (exfalso; simp only [decide_eq_true_eq, decide_eq_false_iff_not] at d1; omega) | skip
          all_goals rcases tf ((x : Int) ≤ 122) with d2 | d2 <;> first | (exfalso; simp only [decide_eq_true_eq, decide_eq_false_iff_not] at d2; omega) | skip
          all_goals rcases tf ((48 : Int) ≤ (x : Int)) with d3 | d3 <;> first | (exfalso; simp only [decide_eq_true_eq, decide_eq_false_iff_not] at d3; omega) | skip
          all_goals rcases tf ((x : Int) ≤ 57) with d4 | d4 <;> first | (exfalso; simp only [decide_eq_true_eq, decide_eq_false_iff_not] at d4; omega) | skip
          go_wp2
          go_ret
          exact ⟨rfl, rfl⟩
    · have hltI := hbe hlt
      clear hbn hbe
      have hr' := hyes.out (all_of_get fun j hj => hgood.out j hj (by omega))
      subst hr'
      clear hgood
      go_wp2
      go_ret
      exact ⟨rfl, rfl⟩
end Go.Proofs.YteiekfccfddmjaaDoor
