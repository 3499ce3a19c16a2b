/- ShareDenies: whoever has an access that another one denies isn't there. -/
import Derived.Test.YthclpefomhakdaaOrderL11
namespace Go.Proofs.Ythclpefomhakdaa
open Go.RowKit

set_option linter.unusedVariables false
theorem calm_both {l : List Opn} (h : RightP l) {i j : Nat} (hi : i < l.length) (hj : j < l.length) (hij : ¬ i = j) : ¬ clashO l[i] l[j] := by
  have hc := List.pairwise_iff_getElem.1 h.calm
  rcases Nat.lt_or_ge i j with a | a
  · exact hc i j hi hj a
  · exact fun k => hc j i hj hi (by omega) (clash_symm k)
set_option maxRecDepth 100000 in
set_option maxHeartbeats 8000000 in
theorem shareDenies_walk (w : World) (A : Option Addr) (c : Nat) (l : List Opn) (hb : Els opE 5 w A l) (hl : l.length ≤ 9223372036854775807) (hc : l.length ≤ c) :
    Calls Try.prog 7 #[.slice A l.length c] w fun e w' => e = .returned (.bool true) ∧ Only [] w w' := by
  have hlI : (l.length : Int) ≤ 9223372036854775807 := by omega
  go_enter Try.func7, Try.ntmps7
  go_wp2_with fail
  refine (alive_any _).mono ?_; rintro e w1 ⟨rfl, k1⟩
  go_wp2_with fail
  go_loopw [3, 4] (fun v i wr => ∃ (n : Nat) (L : List Opn) (B : Option Addr) (d : Nat), n ≤ l.length ∧ i = .int .i64 n ∧ v = .slice B L.length d ∧ Els opE 5 wr B L ∧ L.length ≤ d ∧ Hid (RightP L) ∧ Only [] w wr) (fun _ i _ => l.length - (intOf i).toNat)
  case atStart => exact ⟨0, [], none, 0, Nat.zero_le _, rfl, rfl, .inl rfl, by simp, right_nil, k1⟩
  case round =>
    clear k1
    obtain ⟨n, L, B, d, hn, rfl, rfl, hE, hd, hR, hk⟩ := hrel
    have hL12 : L.length ≤ 12 := hR.out.len
    by_cases hlt : n < l.length
    · by_cases h60 : n < 60
      · have hd1 : decide ((n : Int) < (l.length : Int)) = true := decide_eq_true (by omega)
        have hd2 : decide ((n : Int) < 60) = true := decide_eq_true (by omega)
        obtain ⟨g, o, hA, hg, hat⟩ := hb.get hlt
        obtain ⟨c0, c1, c2, c3, c4⟩ := ops_at (hat.kept hk (by simp)) hlt
        have hAd := add_any wr B d L l[n] hE (by omega) hd
        generalize l[n] = x at *
        have hz := addR_zero (l := L) (o := x)
        have hz2 : (addR L x).2 = 0 → Hid (RightP (addR L x).1) := fun h => by
          obtain ⟨m, e⟩ := hz h
          rw [e]
          exact m.put
        clear hz
        generalize addR L x = X at *
        obtain ⟨X1, X2⟩ := X
        obtain ⟨x0, x1, x2, x3, x4⟩ := x
        have hv : opV ⟨x0, x1, x2, x3, x4⟩ = .agg #[.int .u32 x0, .int .u32 x1, .int .u32 x2, .int .u32 x3, .int .u32 (x4 : Int)] := rfl
        rw [hv] at hAd
        simp only at c0 c1 c2 c3 c4 hz2
        replace hAd := Lib.hid hAd
        replace hz2 := Lib.hid hz2
        clear hat hv
        subst hA
        go_wp2_with fail
        refine hAd.out.mono ?_; rintro e w3 ⟨v3, rfl, m3⟩
        have k3 := hk.trans m3.only
        have hE3 := hE.kept m3.only (by simp)
        obtain ⟨A3, d3, rfl, e3, l3, _⟩ := m3.shape opE_length
        simp only at e3 l3 ⊢
        clear m3
        by_cases hx : X2 = 0
        · have dx : (X2 == 0) = true := by simpa using hx
          have hR' := hz2.out hx
          replace hx := Lib.hid hx
          go_wp2
          go_roundw
          case rel => exact ⟨n + 1, X1, A3, d3, by omega, by go_num, rfl, e3, l3, hR', k3⟩
          case measure => simp [intOf]; omega
        · have dx : (X2 == 0) = false := by simpa using hx
          replace hx := Lib.hid hx
          go_wp2
          go_roundw
          case rel => exact ⟨n + 1, L, B, d, by omega, by go_num, rfl, hE3, hd, hR, k3⟩
          case measure => simp [intOf]; omega
      · have hd1 : decide ((n : Int) < (l.length : Int)) = true := decide_eq_true (by omega)
        have hd2 : decide ((n : Int) < 60) = false := decide_eq_false (by omega)
        have hd2' : ¬ n < 60 := h60
        replace hlt := Lib.hid hlt
        go_wp2_with fail
        go_loopw [7] (fun i wq => ∃ p : Nat, p ≤ L.length ∧ i = .int .i64 p ∧ Only [] w wq ∧ Els opE 5 wq B L) (fun i _ => L.length - (intOf i).toNat)
        case atStart => exact ⟨0, Nat.zero_le _, rfl, hk, hE⟩
        case round =>
          clear hk hE
          obtain ⟨p, hp, rfl, hk, hE⟩ := hrel
          by_cases hpl : p < L.length
          · go_wp2_with fail
            go_loopw [8] (fun i wq => ∃ m : Nat, m ≤ L.length ∧ i = .int .i64 m ∧ Only [] w wq ∧ Els opE 5 wq B L) (fun i _ => L.length - (intOf i).toNat)
            case atStart => exact ⟨0, Nat.zero_le _, rfl, hk, hE⟩
            case round =>
              clear hk hE
              obtain ⟨m, hm, rfl, hk, hE⟩ := hrel
              by_cases hml : m < L.length
              · by_cases hpm : p = m
                · have d1 : ((p : Int) != (m : Int)) = false := by rw [hpm]; simp
                  replace hpm := Lib.hid hpm
                  go_wp2_with fail
                  go_quiet (fail)
                  go_wp2_with fail
                  go_roundw
                  case rel => exact ⟨m + 1, by omega, by go_num, hk.drewN _, hE.kept ((Only.refl [] _).drewN _) (by simp)⟩
                  case measure => simp [intOf]; omega
                · have d1 : ((p : Int) != (m : Int)) = true := by simp; omega
                  obtain ⟨g, o, hB, _, hat⟩ := hE.get hpl
                  obtain ⟨c0, c1, c2, c3, c4⟩ := ops_at hat hpl
                  obtain ⟨f0, f1, f2, f3, f4⟩ := ops_at hat hml
                  have hncl : ¬ clashO L[p] L[m] := calm_both hR.out hpl hml hpm
                  have hv1 := hR.out.ok _ (List.getElem_mem hpl)
                  have hv2 := hR.out.ok _ (List.getElem_mem hml)
                  have a1 := and_small L[p].access L[m].deny ⟨by have := hv1.2.2.1; omega, hv1.2.2.2.1⟩ hv2.2.2.2.2
                  generalize L[p] = x at *
                  generalize L[m] = y at *
                  obtain ⟨x0, x1, x2, x3, x4⟩ := x
                  obtain ⟨y0, y1, y2, y3, y4⟩ := y
                  simp only at c0 c1 c2 c3 c4 f0 f1 f2 f3 f4 a1
                  clear hat hv1 hv2
                  by_cases hf : x2 = y2
                  · have d2 : (x2 == y2) = true := by simpa using hf
                    rw [decide_eq_false (fun h => hncl ⟨hf, .inl h⟩)] at a1
                    replace hpm := Lib.hid hpm
                    replace hf := Lib.hid hf
                    replace hncl := Lib.hid hncl
                    subst hB
                    go_wp2_with fail
                    go_quiet (fail)
                    go_wp2_with fail
                    go_roundw
                    case rel => exact ⟨m + 1, by omega, by go_num, hk.drewN _, hE.kept ((Only.refl [] _).drewN _) (by simp)⟩
                    case measure => simp [intOf]; omega
                  · have d2 : (x2 == y2) = false := by simpa using hf
                    replace hpm := Lib.hid hpm
                    replace hf := Lib.hid hf
                    replace hncl := Lib.hid hncl
                    clear a1
                    subst hB
                    go_wp2_with fail
                    go_quiet (fail)
                    go_wp2_with fail
                    go_roundw
                    case rel => exact ⟨m + 1, by omega, by go_num, hk.drewN _, hE.kept ((Only.refl [] _).drewN _) (by simp)⟩
                    case measure => simp [intOf]; omega
              · go_wp2_with fail
                go_roundw
                case rel => exact ⟨p + 1, by omega, by go_num, hk, hE⟩
                case measure => simp [intOf]; omega
          · have hRt := fun W (k' : Only [] wr W) => right_any W B d L (hE.kept k' (by simp)) (by omega) hd
            rw [decide_eq_true hR.out] at hRt
            replace hRt := Lib.hid hRt
            have hL12' : decide ((L.length : Int) ≤ 12) = true := decide_eq_true (by omega)
            go_wp2_with fail
            refine (alive_any _).mono ?_; rintro e w8 ⟨rfl, k8⟩
            go_wp2_with fail
            refine (hRt.out _ k8).mono ?_; rintro e w9 ⟨rfl, k9⟩
            go_wp2
            go_ret
            exact ⟨rfl, hk.trans (k8.trans k9)⟩
    · have hd1 : decide ((n : Int) < (l.length : Int)) = false := decide_eq_false (by omega)
      replace hlt := Lib.hid hlt
      go_wp2_with fail
      go_loopw [7] (fun i wq => ∃ p : Nat, p ≤ L.length ∧ i = .int .i64 p ∧ Only [] w wq ∧ Els opE 5 wq B L) (fun i _ => L.length - (intOf i).toNat)
      case atStart => exact ⟨0, Nat.zero_le _, rfl, hk, hE⟩
      case round =>
        clear hk hE
        obtain ⟨p, hp, rfl, hk, hE⟩ := hrel
        by_cases hpl : p < L.length
        · go_wp2_with fail
          go_loopw [8] (fun i wq => ∃ m : Nat, m ≤ L.length ∧ i = .int .i64 m ∧ Only [] w wq ∧ Els opE 5 wq B L) (fun i _ => L.length - (intOf i).toNat)
          case atStart => exact ⟨0, Nat.zero_le _, rfl, hk, hE⟩
          case round =>
            clear hk hE
            obtain ⟨m, hm, rfl, hk, hE⟩ := hrel
            by_cases hml : m < L.length
            · by_cases hpm : p = m
              · have d1 : ((p : Int) != (m : Int)) = false := by rw [hpm]; simp
                replace hpm := Lib.hid hpm
                go_wp2_with fail
                go_quiet (fail)
                go_wp2_with fail
                go_roundw
                case rel => exact ⟨m + 1, by omega, by go_num, hk.drewN _, hE.kept ((Only.refl [] _).drewN _) (by simp)⟩
                case measure => simp [intOf]; omega
              · have d1 : ((p : Int) != (m : Int)) = true := by simp; omega
                obtain ⟨g, o, hB, _, hat⟩ := hE.get hpl
                obtain ⟨c0, c1, c2, c3, c4⟩ := ops_at hat hpl
                obtain ⟨f0, f1, f2, f3, f4⟩ := ops_at hat hml
                have hncl : ¬ clashO L[p] L[m] := calm_both hR.out hpl hml hpm
                have hv1 := hR.out.ok _ (List.getElem_mem hpl)
                have hv2 := hR.out.ok _ (List.getElem_mem hml)
                have a1 := and_small L[p].access L[m].deny ⟨by have := hv1.2.2.1; omega, hv1.2.2.2.1⟩ hv2.2.2.2.2
                generalize L[p] = x at *
                generalize L[m] = y at *
                obtain ⟨x0, x1, x2, x3, x4⟩ := x
                obtain ⟨y0, y1, y2, y3, y4⟩ := y
                simp only at c0 c1 c2 c3 c4 f0 f1 f2 f3 f4 a1
                clear hat hv1 hv2
                by_cases hf : x2 = y2
                · have d2 : (x2 == y2) = true := by simpa using hf
                  rw [decide_eq_false (fun h => hncl ⟨hf, .inl h⟩)] at a1
                  replace hpm := Lib.hid hpm
                  replace hf := Lib.hid hf
                  replace hncl := Lib.hid hncl
                  subst hB
                  go_wp2_with fail
                  go_quiet (fail)
                  go_wp2_with fail
                  go_roundw
                  case rel => exact ⟨m + 1, by omega, by go_num, hk.drewN _, hE.kept ((Only.refl [] _).drewN _) (by simp)⟩
                  case measure => simp [intOf]; omega
                · have d2 : (x2 == y2) = false := by simpa using hf
                  replace hpm := Lib.hid hpm
                  replace hf := Lib.hid hf
                  replace hncl := Lib.hid hncl
                  clear a1
                  subst hB
                  go_wp2_with fail
                  go_quiet (fail)
                  go_wp2_with fail
                  go_roundw
                  case rel => exact ⟨m + 1, by omega, by go_num, hk.drewN _, hE.kept ((Only.refl [] _).drewN _) (by simp)⟩
                  case measure => simp [intOf]; omega
            · go_wp2_with fail
              go_roundw
              case rel => exact ⟨p + 1, by omega, by go_num, hk, hE⟩
              case measure => simp [intOf]; omega
        · have hRt := fun W (k' : Only [] wr W) => right_any W B d L (hE.kept k' (by simp)) (by omega) hd
          rw [decide_eq_true hR.out] at hRt
          replace hRt := Lib.hid hRt
          have hL12' : decide ((L.length : Int) ≤ 12) = true := decide_eq_true (by omega)
          go_wp2_with fail
          refine (alive_any _).mono ?_; rintro e w8 ⟨rfl, k8⟩
          go_wp2_with fail
          refine (hRt.out _ k8).mono ?_; rintro e w9 ⟨rfl, k9⟩
          go_wp2
          go_ret
          exact ⟨rfl, hk.trans (k8.trans k9)⟩
end Go.Proofs.Ythclpefomhakdaa
