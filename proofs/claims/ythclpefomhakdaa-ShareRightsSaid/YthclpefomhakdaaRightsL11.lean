/- ShareRights: whether a list may be, and all that is asked of it, are the document's. -/
import Derived.Test.YthclpefomhakdaaAlive11
import Derived.Test.YthclpefomhakdaaRright11
namespace Go.Proofs.Ythclpefomhakdaa
open Go.RowKit

set_option linter.unusedVariables false
set_option maxRecDepth 100000 in
set_option maxHeartbeats 8000000 in
theorem shareRights_walk (w : World) (A : Option Addr) (c : Nat) (l : List Opn) (a h f : Int) (hb : Els opE 5 w A l) (hl : l.length ≤ 9223372036854775807) (hc : l.length ≤ c) :
    Calls Try.prog 3 #[.slice A l.length c, .int .u32 a, .int .u32 h, .int .u32 f] w fun e w' => e = .returned (.bool true) ∧ Only [] w w' := by
  have hS := fun W (k : Only [] w W) => find_any W A c l a h (hb.kept k (by simp)) hl
  have hF := fun W (k : Only [] w W) => rfind_any W A c l a h (hb.kept k (by simp)) hl
  have hRt := fun W (k : Only [] w W) => right_any W A c l (hb.kept k (by simp)) hl hc
  have hRR := fun W (k : Only [] w W) => rright_any W A c l (hb.kept k (by simp)) hl
  have hU := fun W (k : Only [] w W) => uses_any W A c l f (hb.kept k (by simp)) hl
  have hRU := fun W (k : Only [] w W) => ruses_any W A c l f (hb.kept k (by simp)) hl
  have hH := fun W (k : Only [] w W) => has_any W A c l a f (hb.kept k (by simp)) hl
  have hr12 : RightP l → l.length ≤ 12 := fun h => h.len
  obtain ⟨p, hp⟩ : ∃ p : Opn → Bool, p = fun x => decide (x.client = a ∧ x.file = f) := ⟨_, rfl⟩
  rw [← hp] at hH
  replace hp : ∀ x, p x = decide (x.client = a ∧ x.file = f) := fun x => by rw [hp]
  replace hp := Lib.hid hp
  generalize hrb : decide (RightP l) = rb at *
  generalize l.countP (fun x => decide (x.file = f)) = un at *
  replace hS := Lib.hid hS
  replace hF := Lib.hid hF
  replace hRt := Lib.hid hRt
  replace hRR := Lib.hid hRR
  replace hU := Lib.hid hU
  replace hRU := Lib.hid hRU
  replace hH := Lib.hid hH
  replace hr12 := Lib.hid hr12
  replace hrb := Lib.hid hrb
  go_enter Try.func3, Try.ntmps3
  go_wp2_with fail
  refine (alive_any _).mono ?_; rintro e w1 ⟨rfl, k1⟩
  by_cases h100 : (100 : Int) < (l.length : Int)
  · have d100 : decide ((100 : Int) < (l.length : Int)) = true := decide_eq_true h100
    have hrf : rb = false := by rw [← hrb.out]; exact decide_eq_false (fun h => by have := hr12.out h; omega)
    subst hrf
    go_wp2_with fail
    refine (alive_any _).mono ?_; rintro e w2 ⟨rfl, k2⟩
    go_wp2_with fail
    refine (hRt.out _ (k1.trans k2)).mono ?_; rintro e w3 ⟨rfl, k3⟩
    go_wp2
    go_ret
    exact ⟨rfl, (k1.trans k2).trans k3⟩
  have d100 : decide ((100 : Int) < (l.length : Int)) = false := decide_eq_false h100
  have hl100 : (l.length : Int) ≤ 100 := by omega
  replace h100 := Lib.hid h100
  cases hfk : findK l a h with
  | none =>
    have hS' := hS.out
    rw [hfk] at hS'
    simp only [Option.getD_none, Option.isSome_none, opV_zero] at hS'
    have hS := Lib.hid hS'
    clear hS'
    go_wp2_with fail
    refine (hS.out _ k1).mono ?_; rintro e w2 ⟨rfl, k2'⟩
    have k2 := k1.trans k2'
    have b2 : Bx (w2.alloc (.cells #[.int .u32 0, .int .u32 0, .int .u32 0, .int .u32 0, .int .u32 0] 27)) w2.heap.size zeroO := Blk.new _ _ _
    have ka : Only [] w2 (w2.alloc (.cells #[.int .u32 0, .int .u32 0, .int .u32 0, .int .u32 0, .int .u32 0] 27)) := (Only.refl [] w2).alloc _
    have k2a := k2.trans ka
    clear k2' k2 ka
    go_wp2_with fail
    refine (hF.out _ k2a).mono ?_; rintro e w3 ⟨⟨r, rfl, hr⟩, rfl⟩
    have hrm : r = -1 := by
      rcases hr.out with h | ⟨m, x, _, _, h⟩
      · exact h.1
      · rw [hfk] at h; cases h
    subst hrm
    clear hr
    go_wp2_with fail
    generalize w2.heap.size = q at *
    generalize (w2.alloc (.cells #[.int .u32 0, .int .u32 0, .int .u32 0, .int .u32 0, .int .u32 0] 27)) = w3 at *
    go_loopw [12, 13] (fun b i wr => ∃ n : Nat, n ≤ l.length ∧ i = .int .i64 n ∧ b = .bool (decide (0 < (l.take n).countP p)) ∧ wr = w3) (fun _ i _ => l.length - (intOf i).toNat)
    case atStart => exact ⟨0, Nat.zero_le _, rfl, by simp, rfl⟩
    case round =>
      obtain ⟨n, hn, rfl, rfl, rfl⟩ := hrel
      by_cases hlt : n < l.length
      · obtain ⟨g', o', hA', hg', hat⟩ := hb.get hlt
        obtain ⟨c0, c1, c2, c3, c4⟩ := ops_at (hat.kept k2a (by simp)) hlt
        have hx' : l[n]? = some l[n] := List.getElem?_eq_getElem hlt
        have hst := countP_take (p := p) hx'
        have hpx := hp.out l[n]
        generalize l[n] = y at *
        obtain ⟨y0, y1, y2, y3, y4⟩ := y
        simp only at c0 c1 c2 c3 c4 hpx
        subst hA'
        replace hx' := Lib.hid hx'
        clear hat
        generalize hcnt : (l.take n).countP p = cn at *
        cases hcb : decide (0 < cn) with
        | true =>
          have hnb : Hid (Value.bool true = Value.bool (decide (0 < (l.take (n + 1)).countP p))) := by
            have : 0 < cn := of_decide_eq_true hcb
            rw [hst, decide_eq_true (by omega)]; exact rfl
          replace hst := Lib.hid hst
          replace hpx := Lib.hid hpx
          replace hcnt := Lib.hid hcnt
          replace hcb := Lib.hid hcb
          go_wp2
          go_roundw
          case rel => exact ⟨n + 1, by omega, by go_num, hnb.out, by trivial⟩
          case measure => simp [intOf]; omega
        | false =>
          have hc0 : ¬ 0 < cn := of_decide_eq_false hcb
          have hc00 : cn = 0 := by omega
          have hcb' := hcb
          replace hcb := Lib.hid hcb
          replace hcnt := Lib.hid hcnt
          replace hc0 := Lib.hid hc0
          by_cases he : y0 = a
          · have d1 : (y0 == a) = true := by simpa using he
            by_cases he2 : y2 = f
            · have d2 : (y2 == f) = true := by simpa using he2
              have hnb : Hid (Value.bool true = Value.bool (decide (0 < (l.take (n + 1)).countP p))) := by
                rw [hst, hpx, if_pos (by simp [he, he2]), decide_eq_true (by omega)]; exact rfl
              replace hst := Lib.hid hst
              replace hpx := Lib.hid hpx
              replace he := Lib.hid he
              replace he2 := Lib.hid he2
              replace hc00 := Lib.hid hc00
              go_wp2
              go_roundw
              case rel => exact ⟨n + 1, by omega, by go_num, hnb.out, by trivial⟩
              case measure => simp [intOf]; omega
            · have d2 : (y2 == f) = false := by simpa using he2
              have hnb : Hid (Value.bool false = Value.bool (decide (0 < (l.take (n + 1)).countP p))) := by
                rw [hst, hpx, if_neg (by simp [he2]), decide_eq_false (by omega)]; exact rfl
              replace hst := Lib.hid hst
              replace hpx := Lib.hid hpx
              replace he := Lib.hid he
              replace he2 := Lib.hid he2
              replace hc00 := Lib.hid hc00
              go_wp2
              go_roundw
              case rel => exact ⟨n + 1, by omega, by go_num, hnb.out, by trivial⟩
              case measure => simp [intOf]; omega
          · have d1 : (y0 == a) = false := by simpa using he
            have hnb : Hid (Value.bool false = Value.bool (decide (0 < (l.take (n + 1)).countP p))) := by
              rw [hst, hpx, if_neg (by simp [he]), decide_eq_false (by omega)]; exact rfl
            replace hst := Lib.hid hst
            replace hpx := Lib.hid hpx
            replace he := Lib.hid he
            replace hc00 := Lib.hid hc00
            go_wp2
            go_roundw
            case rel => exact ⟨n + 1, by omega, by go_num, hnb.out, by trivial⟩
            case measure => simp [intOf]; omega
      · rw [List.take_of_length_le (by omega)]
        obtain ⟨hs, hhs⟩ : ∃ hs, hs = decide (0 < l.countP p) := ⟨_, rfl⟩
        rw [← hhs]
        have hH' := hH.out
        rw [← hhs] at hH'
        replace hH' := Lib.hid hH'
        clear hhs
        go_wp2_with fail
        refine (alive_any _).mono ?_; rintro e w4 ⟨rfl, k4⟩
        have k4a := k2a.trans k4
        go_wp2_with fail
        refine (hRt.out _ k4a).mono ?_; rintro e w5 ⟨rfl, k5'⟩
        have k5 := k4.trans k5'
        have k5a := k4a.trans k5'
        go_wp2_with fail
        refine (hRR.out _ k5a).mono ?_; rintro e w6 ⟨rfl, k6'⟩
        have k6 := k5.trans k6'
        have k6a := k5a.trans k6'
        go_wp2_with fail
        refine (hU.out _ k6a).mono ?_; rintro e w7 ⟨rfl, k7'⟩
        have k7 := k6.trans k7'
        have k7a := k6a.trans k7'
        go_wp2_with fail
        refine (hRU.out _ k7a).mono ?_; rintro e w8 ⟨rfl, rfl⟩
        go_wp2_with fail
        refine (hH'.out _ k7a).mono ?_; rintro e w9 ⟨rfl, k9'⟩
        have k9 := k7.trans k9'
        have k9a := k7a.trans k9'
        have b9 := Bx.kept b2 k9 (by simp)
        clear b2 k4 k5 k6 k7 k9 k4a k5a k6a k7a k5' k6' k7' k9'
        obtain ⟨q0, q1, q2, q3, q4⟩ := b9.cells
        simp only [zeroO] at q0 q1 q2 q3 q4
        go_wp2_with (refine wpList_eql_op zeroO zeroO rfl _ _ _ rfl rfl rfl true (decide_eq_true rfl) ?_)
        go_ret
        exact ⟨rfl, k9a⟩
  | some x =>
    have hS' := hS.out
    rw [hfk] at hS'
    obtain ⟨x0, x1, x2, x3, x4⟩ := x
    have hv : opV ⟨x0, x1, x2, x3, x4⟩ = .agg #[.int .u32 x0, .int .u32 x1, .int .u32 x2, .int .u32 x3, .int .u32 (x4 : Int)] := rfl
    simp only [Option.getD_some, Option.isSome_some] at hS'
    rw [hv] at hS'
    clear hv
    have hS := Lib.hid hS'
    clear hS'
    go_wp2_with fail
    refine (hS.out _ k1).mono ?_; rintro e w2 ⟨rfl, k2'⟩
    have k2 := k1.trans k2'
    have b2 : Bx (w2.alloc (.cells #[.int .u32 x0, .int .u32 x1, .int .u32 x2, .int .u32 x3, .int .u32 (x4 : Int)] 27)) w2.heap.size ⟨x0, x1, x2, x3, x4⟩ := Blk.new _ _ _
    have ka : Only [] w2 (w2.alloc (.cells #[.int .u32 x0, .int .u32 x1, .int .u32 x2, .int .u32 x3, .int .u32 (x4 : Int)] 27)) := (Only.refl [] w2).alloc _
    have k2a := k2.trans ka
    clear k2' k2 ka
    go_wp2_with fail
    refine (hF.out _ k2a).mono ?_; rintro e w3 ⟨⟨r, rfl, hr⟩, rfl⟩
    obtain ⟨m, hrm, hmx⟩ : ∃ m : Nat, r = m ∧ l[m]? = some ⟨x0, x1, x2, x3, x4⟩ := by
      rcases hr.out with h | ⟨m, x, h1, h2, h⟩
      · rw [hfk] at h; cases h.2
      · rw [hfk] at h; injection h with h; subst h; exact ⟨m, h1, h2⟩
    subst hrm
    have hml := (List.getElem?_eq_some_iff.1 hmx).1
    have hme := (List.getElem?_eq_some_iff.1 hmx).2
    obtain ⟨g, o, rfl, hg, hatm⟩ := hb.get hml
    have hcm := fun W (k : Only [] w W) => ops_at (hatm.kept k (by simp)) hml
    rw [hme] at hcm
    simp only at hcm
    have hm0 : decide ((0 : Int) ≤ (m : Int)) = true := decide_eq_true (by omega)
    have hmI : (m : Int) < (l.length : Int) := by omega
    have hmz : (0 : Int) ≤ (m : Int) := by omega
    replace hcm := Lib.hid hcm
    replace hmx := Lib.hid hmx
    replace hme := Lib.hid hme
    clear hr hatm
    go_wp2_with fail
    generalize w2.heap.size = q at *
    generalize (w2.alloc (.cells #[.int .u32 x0, .int .u32 x1, .int .u32 x2, .int .u32 x3, .int .u32 (x4 : Int)] 27)) = w3 at *
    go_loopw [12, 13] (fun b i wr => ∃ n : Nat, n ≤ l.length ∧ i = .int .i64 n ∧ b = .bool (decide (0 < (l.take n).countP p)) ∧ wr = w3) (fun _ i _ => l.length - (intOf i).toNat)
    case atStart => exact ⟨0, Nat.zero_le _, rfl, by simp, rfl⟩
    case round =>
      obtain ⟨n, hn, rfl, rfl, rfl⟩ := hrel
      by_cases hlt : n < l.length
      · obtain ⟨g', o', hA', hg', hat⟩ := hb.get hlt
        obtain ⟨c0, c1, c2, c3, c4⟩ := ops_at (hat.kept k2a (by simp)) hlt
        have hx' : l[n]? = some l[n] := List.getElem?_eq_getElem hlt
        have hst := countP_take (p := p) hx'
        have hpx := hp.out l[n]
        generalize l[n] = y at *
        obtain ⟨y0, y1, y2, y3, y4⟩ := y
        simp only at c0 c1 c2 c3 c4 hpx
        obtain ⟨h1', h2'⟩ : g = g' ∧ o = o' := by injection hA' with hA'; injection hA' with e1 e2; exact ⟨e1, e2⟩
        subst h1' h2'
        replace hx' := Lib.hid hx'
        clear hat
        generalize hcnt : (l.take n).countP p = cn at *
        cases hcb : decide (0 < cn) with
        | true =>
          have hnb : Hid (Value.bool true = Value.bool (decide (0 < (l.take (n + 1)).countP p))) := by
            have : 0 < cn := of_decide_eq_true hcb
            rw [hst, decide_eq_true (by omega)]; exact rfl
          replace hst := Lib.hid hst
          replace hpx := Lib.hid hpx
          replace hcnt := Lib.hid hcnt
          replace hcb := Lib.hid hcb
          go_wp2
          go_roundw
          case rel => exact ⟨n + 1, by omega, by go_num, hnb.out, by trivial⟩
          case measure => simp [intOf]; omega
        | false =>
          have hc0 : ¬ 0 < cn := of_decide_eq_false hcb
          have hc00 : cn = 0 := by omega
          have hcb' := hcb
          replace hcb := Lib.hid hcb
          replace hcnt := Lib.hid hcnt
          replace hc0 := Lib.hid hc0
          by_cases he : y0 = a
          · have d1 : (y0 == a) = true := by simpa using he
            by_cases he2 : y2 = f
            · have d2 : (y2 == f) = true := by simpa using he2
              have hnb : Hid (Value.bool true = Value.bool (decide (0 < (l.take (n + 1)).countP p))) := by
                rw [hst, hpx, if_pos (by simp [he, he2]), decide_eq_true (by omega)]; exact rfl
              replace hst := Lib.hid hst
              replace hpx := Lib.hid hpx
              replace he := Lib.hid he
              replace he2 := Lib.hid he2
              replace hc00 := Lib.hid hc00
              go_wp2
              go_roundw
              case rel => exact ⟨n + 1, by omega, by go_num, hnb.out, by trivial⟩
              case measure => simp [intOf]; omega
            · have d2 : (y2 == f) = false := by simpa using he2
              have hnb : Hid (Value.bool false = Value.bool (decide (0 < (l.take (n + 1)).countP p))) := by
                rw [hst, hpx, if_neg (by simp [he2]), decide_eq_false (by omega)]; exact rfl
              replace hst := Lib.hid hst
              replace hpx := Lib.hid hpx
              replace he := Lib.hid he
              replace he2 := Lib.hid he2
              replace hc00 := Lib.hid hc00
              go_wp2
              go_roundw
              case rel => exact ⟨n + 1, by omega, by go_num, hnb.out, by trivial⟩
              case measure => simp [intOf]; omega
          · have d1 : (y0 == a) = false := by simpa using he
            have hnb : Hid (Value.bool false = Value.bool (decide (0 < (l.take (n + 1)).countP p))) := by
              rw [hst, hpx, if_neg (by simp [he]), decide_eq_false (by omega)]; exact rfl
            replace hst := Lib.hid hst
            replace hpx := Lib.hid hpx
            replace he := Lib.hid he
            replace hc00 := Lib.hid hc00
            go_wp2
            go_roundw
            case rel => exact ⟨n + 1, by omega, by go_num, hnb.out, by trivial⟩
            case measure => simp [intOf]; omega
      · rw [List.take_of_length_le (by omega)]
        obtain ⟨hs, hhs⟩ : ∃ hs, hs = decide (0 < l.countP p) := ⟨_, rfl⟩
        rw [← hhs]
        have hH' := hH.out
        rw [← hhs] at hH'
        replace hH' := Lib.hid hH'
        clear hhs
        go_wp2_with fail
        refine (alive_any _).mono ?_; rintro e w4 ⟨rfl, k4⟩
        have k4a := k2a.trans k4
        go_wp2_with fail
        refine (hRt.out _ k4a).mono ?_; rintro e w5 ⟨rfl, k5'⟩
        have k5 := k4.trans k5'
        have k5a := k4a.trans k5'
        go_wp2_with fail
        refine (hRR.out _ k5a).mono ?_; rintro e w6 ⟨rfl, k6'⟩
        have k6 := k5.trans k6'
        have k6a := k5a.trans k6'
        go_wp2_with fail
        refine (hU.out _ k6a).mono ?_; rintro e w7 ⟨rfl, k7'⟩
        have k7 := k6.trans k7'
        have k7a := k6a.trans k7'
        go_wp2_with fail
        refine (hRU.out _ k7a).mono ?_; rintro e w8 ⟨rfl, rfl⟩
        go_wp2_with fail
        refine (hH'.out _ k7a).mono ?_; rintro e w9 ⟨rfl, k9'⟩
        have k9 := k7.trans k9'
        have k9a := k7a.trans k9'
        have b9 := Bx.kept b2 k9 (by simp)
        clear b2 k4 k5 k6 k7 k9 k4a k5a k6a k7a k5' k6' k7' k9'
        obtain ⟨q0, q1, q2, q3, q4⟩ := b9.cells
        simp only at q0 q1 q2 q3 q4
        obtain ⟨s0, s1, s2, s3, s4⟩ := hcm.out _ k9a
        go_wp2_with fail
        go_quiet (fail)
        go_wp2
        go_ret
        exact ⟨rfl, k9a.drewN _⟩
end Go.Proofs.Ythclpefomhakdaa
