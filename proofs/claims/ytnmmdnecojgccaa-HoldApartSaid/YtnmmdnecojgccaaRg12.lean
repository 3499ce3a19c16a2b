/- Whether a lock may be: the program's Right, the document's Right. -/
import Derived.Test.YtnmmdnecojgccaaOp12
namespace Go.Proofs.Ytnmmdnecojgccaa
open Go.RowKit

/-- The first n holders are right. -/
structure RInv (L : Lk) (n : Nat) : Prop where
  ok : ∀ h ∈ L.hs.take n, okH L.used L.hs.length h
  rise : (L.hs.take n).Pairwise cliLt
theorem RInv.zero (L : Lk) : RInv L 0 := ⟨by simp, by simp⟩
theorem RInv.succ {L : Lk} {n : Nat} {x : Hol} (h : RInv L n) (hx : L.hs[n]? = some x) (o : okH L.used L.hs.length x) (k : ∀ (m : Nat) (p : Hol), n = m + 1 → L.hs[m]? = some p → p.client < x.client) : RInv L (n + 1) := by
  have e := get_snoc hx
  refine ⟨fun y hy => ?_, ?_⟩
  · rw [e, List.mem_append, List.mem_singleton] at hy
    rcases hy with hy | rfl
    · exact h.ok y hy
    · exact o
  · rw [e, List.pairwise_append]
    refine ⟨h.rise, by simp, fun y hy z hz => ?_⟩
    rw [List.mem_singleton] at hz
    subst hz
    obtain ⟨j, hj, rfl⟩ := List.getElem_of_mem hy
    have hj' := hj
    rw [List.length_take] at hj'
    obtain ⟨m, rfl⟩ : ∃ m, n = m + 1 := ⟨n - 1, by omega⟩
    have hxl := (List.getElem?_eq_some_iff.1 hx).1
    have hm : L.hs[m]? = some (L.hs[m]'(by omega)) := List.getElem?_eq_getElem (by omega)
    have hp := k m _ rfl hm
    rw [List.getElem_take]
    rcases Nat.lt_or_ge j m with a | a
    · have := (List.pairwise_iff_getElem.1 h.rise) j m hj (by rw [List.length_take]; omega) a
      rw [List.getElem_take, List.getElem_take] at this
      unfold cliLt at this ⊢
      omega
    · obtain rfl : j = m := by omega
      exact hp
theorem RInv.done {L : Lk} {n : Nat} (h : RInv L n) (hn : L.hs.length ≤ n) (h1 : L.used ≤ 2) (h2 : L.cut ≤ 1024) (h3 : L.hs.length ≤ 4) (h4 : 0 < L.hs.length → L.fenced = true ∧ L.gone = false) : RightP L := by
  obtain ⟨a, b⟩ := h
  rw [List.take_of_length_le hn] at a b
  exact ⟨h1, h2, h3, h4, a, b⟩
theorem not_ok {L : Lk} {x : Hol} (hx : x ∈ L.hs) (h : ¬ okH L.used L.hs.length x) : ¬ RightP L := fun r => h (r.ok x hx)
theorem not_rise {L : Lk} {m : Nat} {x p : Hol} (hp : L.hs[m]? = some p) (hx : L.hs[m + 1]? = some x) (h : ¬ p.client < x.client) : ¬ RightP L := fun r => by
  obtain ⟨h1, e1⟩ := List.getElem?_eq_some_iff.1 hp
  obtain ⟨h2, e2⟩ := List.getElem?_eq_some_iff.1 hx
  have := (List.pairwise_iff_getElem.1 r.rise) m (m + 1) h1 h2 (by omega)
  rw [e1, e2] at this
  exact h this
theorem mode_any (w : World) (m : Int) : Calls Try.prog 23 #[.int .u32 m] w fun e w' => e = .returned (.bool (decide (m = 1 ∨ m = 2))) ∧ w' = w := by
  by_cases h : m = 1
  · have d : (m == 1) = true := by simpa using h
    rw [decide_eq_true (.inl h)]
    replace h := Lib.hid h
    go_enter Try.func23, Try.ntmps23
    go_wp2
    go_ret
    exact ⟨rfl, rfl⟩
  · have d : (m == 1) = false := by simpa using h
    by_cases h2 : m = 2
    · have d2 : (m == 2) = true := by simpa using h2
      rw [decide_eq_true (.inr h2)]
      replace h := Lib.hid h
      replace h2 := Lib.hid h2
      go_enter Try.func23, Try.ntmps23
      go_wp2
      go_ret
      exact ⟨rfl, rfl⟩
    · have d2 : (m == 2) = false := by simpa using h2
      rw [decide_eq_false (by omega)]
      replace h := Lib.hid h
      replace h2 := Lib.hid h2
      go_enter Try.func23, Try.ntmps23
      go_wp2
      go_ret
      exact ⟨rfl, rfl⟩


set_option maxRecDepth 100000 in
set_option maxHeartbeats 8000000 in
theorem right_any (w : World) (L : Lk) (A : Option Addr) (c : Nat) (hb : Els holE 2 w A L.hs) (hl : L.hs.length ≤ 9223372036854775807) :
    Calls Try.prog 9 #[lkV L (.slice A L.hs.length c)] w fun e w' => e = .returned (.bool (decide (RightP L))) ∧ Only [] w w' := by
  obtain ⟨R, hR⟩ : ∃ R, R = decide (RightP L) := ⟨_, rfl⟩
  rw [← hR]
  have hyes : RightP L → R = true := fun h => by rw [hR]; exact decide_eq_true h
  have hno : ¬ RightP L → R = false := fun h => by rw [hR]; exact decide_eq_false h
  have hbad := fun x => not_ok (L := L) (x := x)
  have hris := fun m x p => not_rise (L := L) (m := m) (x := x) (p := p)
  have hz := RInv.zero L
  have hsu := fun n x => RInv.succ (L := L) (n := n) (x := x)
  have hdo := fun n => RInv.done (L := L) (n := n)
  have n1 : ¬ RightP L ∨ L.used ≤ 2 := by by_cases h : L.used ≤ 2; exact .inr h; exact .inl fun r => h r.used
  have n2 : ¬ RightP L ∨ L.cut ≤ 1024 := by by_cases h : L.cut ≤ 1024; exact .inr h; exact .inl fun r => h r.cut
  have n3 : ¬ RightP L ∨ L.hs.length ≤ 4 := by by_cases h : L.hs.length ≤ 4; exact .inr h; exact .inl fun r => h r.len
  have n4 : 0 < L.hs.length → L.fenced = false → ¬ RightP L := fun h0 h r => by have := (r.may h0).1; rw [h] at this; cases this
  have n5 : 0 < L.hs.length → L.gone = true → ¬ RightP L := fun h0 h r => by have := (r.may h0).2; rw [h] at this; cases this
  obtain ⟨P, hP⟩ : ∃ P, P = RightP L := ⟨_, rfl⟩
  obtain ⟨I, hI⟩ : ∃ I, I = RInv L := ⟨_, rfl⟩
  rw [← hP] at hyes hno
  simp only [← hP] at hbad hris hdo n1 n2 n3 n4 n5
  simp only [← hI] at hz hsu hdo
  clear hR hP hI
  obtain ⟨f, e, u, k, fe, go, l⟩ := L
  simp only at hb hl hbad hris hsu hdo n1 n2 n3 n4 n5
  have k0 := (Only.refl [] w).alloc (.cells #[.int .u32 f, .int .u32 e, .int .u32 u, .int .u32 k, .bool fe, .bool go, .slice A l.length c] 25)
  have bx := Lx.new w f e u k fe go l (.slice A l.length c)
  have hlI : (l.length : Int) ≤ 9223372036854775807 := by omega
  simp only [lkV]
  obtain ⟨n, hn⟩ : ∃ n, n = l.length := ⟨_, rfl⟩
  rw [← hn] at hl hlI bx n3 n4 n5 hbad hsu hdo k0 ⊢
  replace hyes := Lib.hid hyes
  replace hno := Lib.hid hno
  replace hbad := Lib.hid hbad
  replace hris := Lib.hid hris
  replace hz := Lib.hid hz
  replace hsu := Lib.hid hsu
  replace hdo := Lib.hid hdo
  replace hn := Lib.hid hn
  by_cases hu : 2 < u
  · have d1 : decide (2 < u) = true := decide_eq_true hu
    obtain rfl := hno.out (by rcases n1 with h | h; exact h; omega)
    replace hu := Lib.hid hu
    clear n1 n2 n3 n4 n5
    go_enter Try.func9, Try.ntmps9
    go_wp2
    go_ret
    exact ⟨rfl, k0⟩
  have d1 : decide (2 < u) = false := decide_eq_false hu
  by_cases hk : 1024 < k
  · have d2 : decide (1024 < k) = true := decide_eq_true hk
    obtain rfl := hno.out (by rcases n2 with h | h; exact h; omega)
    replace hu := Lib.hid hu
    replace hk := Lib.hid hk
    clear n1 n2 n3 n4 n5
    go_enter Try.func9, Try.ntmps9
    go_wp2
    go_ret
    exact ⟨rfl, k0⟩
  have d2 : decide (1024 < k) = false := decide_eq_false hk
  by_cases h4 : (4 : Int) < (n : Int)
  · have d3 : decide ((4 : Int) < (n : Int)) = true := decide_eq_true h4
    obtain rfl := hno.out (by rcases n3 with h | h; exact h; omega)
    replace hu := Lib.hid hu
    replace hk := Lib.hid hk
    clear n1 n2 n3 n4 n5
    go_enter Try.func9, Try.ntmps9
    go_wp2
    go_ret
    exact ⟨rfl, k0⟩
  have d3 : decide ((4 : Int) < (n : Int)) = false := decide_eq_false h4
  have hn4 : n ≤ 4 := by omega
  clear h4 hl hlI
  have g1 := Lib.hid (show u ≤ 2 by omega)
  have g2 := Lib.hid (show k ≤ 1024 by omega)
  replace hu := Lib.hid hu
  replace hk := Lib.hid hk
  replace n1 := Lib.hid n1
  replace n2 := Lib.hid n2
  replace n3 := Lib.hid n3
  replace n4 := Lib.hid n4
  replace n5 := Lib.hid n5
  by_cases hn0 : n = 0
  · subst hn0
    obtain rfl := hyes.out (hdo.out 0 hz.out (Nat.le_refl _) g1.out g2.out (Nat.zero_le _) (fun h => absurd h (Nat.lt_irrefl 0)))
    go_enter Try.func9, Try.ntmps9
    go_wp2_with fail
    go_loopw [35] (fun i wr => i = .int .i64 0 ∧ Only [] (w.alloc (.cells #[.int .u32 f, .int .u32 e, .int .u32 u, .int .u32 k, .bool fe, .bool go, .slice A 0 c] 25)) wr) (fun _ _ => 0)
    case atStart => exact ⟨rfl, Only.refl _ _⟩
    case round =>
      obtain ⟨rfl, hk⟩ := hrel
      go_wp2
      go_ret
      exact ⟨rfl, k0.trans hk⟩
  have hpos : 0 < n := by omega
  have dp : decide ((0 : Int) < (n : Int)) = true := decide_eq_true (by omega)
  cases fe with
  | false =>
    obtain rfl := hno.out (n4.out hpos rfl)
    go_enter Try.func9, Try.ntmps9
    go_wp2
    go_ret
    exact ⟨rfl, k0⟩
  | true =>
  cases go with
  | true =>
    obtain rfl := hno.out (n5.out hpos rfl)
    go_enter Try.func9, Try.ntmps9
    go_wp2
    go_ret
    exact ⟨rfl, k0⟩
  | false =>
  have hdon : Hid (∀ m, I m → n ≤ m → P) := fun m hi hm => hdo.out m hi hm g1.out g2.out hn4 (fun _ => ⟨rfl, rfl⟩)
  go_enter Try.func9, Try.ntmps9
  go_wp2_with fail
  go_loopw [35] (fun i wr => ∃ m : Nat, m ≤ n ∧ i = .int .i64 m ∧ Hid (I m) ∧ Only [] (w.alloc (.cells #[.int .u32 f, .int .u32 e, .int .u32 u, .int .u32 k, .bool true, .bool false, .slice A n c] 25)) wr) (fun i _ => n - (intOf i).toNat)
  case atStart => exact ⟨0, Nat.zero_le _, rfl, hz, Only.refl _ _⟩
  case round =>
    obtain ⟨m, hm, rfl, hi, hk⟩ := hrel
    have hkw := k0.trans hk
    obtain ⟨c0, c1, c2, c3, c4, c5, c6⟩ := bx.at hk (by simp)
    have hq1 : w.heap.size < wr.heap.size := World.block_lt_of_cell? wr _ c0
    have hq2 : ¬ w.heap.size = wr.heap.size := by omega
    by_cases hlt : m < n
    rotate_left
    · obtain rfl := hyes.out (hdon.out m hi.out (by omega))
      go_wp2
      go_ret
      exact ⟨rfl, hkw⟩
    have hltl : m < l.length := by rw [← hn.out]; exact hlt
    obtain ⟨g, o, hA, hg, hat⟩ := hb.get hltl
    have hat' := hat.kept hkw (by simp)
    have hg1 : g < wr.heap.size := by omega
    have hg2 : ¬ g = wr.heap.size := by omega
    obtain ⟨e0, e1⟩ := hols_at hat' hltl
    have hx : l[m]? = some l[m] := List.getElem?_eq_getElem hltl
    have hxm : l[m] ∈ l := List.getElem_mem hltl
    have hprev : ∀ j, m = j + 1 → ∃ p : Hol, l[j]? = some p ∧ wr.cell? ⟨g, o + j * 2, none⟩ = some (.int .u32 p.client) := fun j hj => by
      have hj' : j < l.length := by omega
      exact ⟨l[j], List.getElem?_eq_getElem hj', (hols_at hat' hj').1⟩
    generalize l[m] = x at *
    have hbx := hbad.out x hxm
    have hsx := hsu.out m x hi.out hx
    have hrx := fun j p (hj : m = j + 1) (hp : l[j]? = some p) => hris.out j x p hp (by rw [← hj]; exact hx)
    obtain ⟨x0, x1⟩ := x
    simp only [okH] at hbx hsx
    simp only at e0 e1 hrx hsx
    have hMo := fun W => mode_any W x1
    subst hA
    replace hbx := Lib.hid hbx
    replace hsx := Lib.hid hsx
    replace hrx := Lib.hid hrx
    replace hprev := Lib.hid hprev
    replace hx := Lib.hid hx
    replace hxm := Lib.hid hxm
    replace hi := Lib.hid hi
    clear hat hat' hb
    by_cases hmo : x1 = 1 ∨ x1 = 2
    rotate_left
    · obtain rfl := hno.out (hbx.out (fun h => hmo h.1))
      rw [decide_eq_false hmo] at hMo
      replace hMo := Lib.hid hMo
      replace hmo := Lib.hid hmo
      go_wp2_with fail
      refine (hMo.out _).mono ?_; rintro e w1 ⟨rfl, rfl⟩
      go_wp2
      go_ret
      exact ⟨rfl, hkw.alloc _⟩
    rw [decide_eq_true hmo] at hMo
    replace hMo := Lib.hid hMo
    by_cases hux : u < x1
    · obtain rfl := hno.out (hbx.out (fun h => by omega))
      have d4 : decide (u < x1) = true := decide_eq_true hux
      replace hmo := Lib.hid hmo
      go_wp2_with fail
      refine (hMo.out _).mono ?_; rintro e w1 ⟨rfl, rfl⟩
      go_wp2
      go_ret
      exact ⟨rfl, hkw.alloc _⟩
    have d4 : decide (u < x1) = false := decide_eq_false hux
    by_cases hw : x1 = 2 ∧ 1 < n
    · obtain rfl := hno.out (hbx.out (fun h => h.2.2 ⟨hw.1, by omega⟩))
      have d5 : (x1 == 2) = true := by simpa using hw.1
      have d6 : decide ((1 : Int) < (n : Int)) = true := decide_eq_true (by omega)
      have d7 : (1 : Int) < (n : Int) := by omega
      replace hmo := Lib.hid hmo
      replace hw := Lib.hid hw
      go_wp2_with fail
      refine (hMo.out _).mono ?_; rintro e w1 ⟨rfl, rfl⟩
      go_wp2
      go_ret
      exact ⟨rfl, hkw.alloc _⟩
    have hok : Hid ((x1 = 1 ∨ x1 = 2) ∧ x1 ≤ u ∧ ¬ (x1 = 2 ∧ n ≠ 1)) := by refine ⟨hmo, by omega, ?_⟩; omega
    have d56 : ((x1 == 2) = true ∧ decide ((1 : Int) < (n : Int)) = false ∧ ¬ (1 : Int) < (n : Int)) ∨ (x1 == 2) = false := by
      by_cases h2 : x1 = 2
      · exact .inl ⟨by simpa using h2, decide_eq_false (by omega), by omega⟩
      · exact .inr (by simpa using h2)
    replace hmo := Lib.hid hmo
    replace hw := Lib.hid hw
    replace hux := Lib.hid hux
    clear hbx
    rcases d56 with ⟨d5, d6, d7⟩ | d5
    · cases m with
      | zero =>
        have hnx := hsx.out hok.out (fun j p hj => by cases hj)
        rw [Nat.zero_mul, Nat.add_zero] at e0 e1
        have dz : ((0 : Nat) : Int) = 0 := rfl
        rw [dz]
        replace hnx := Lib.hid hnx
        clear hprev hsx hrx
        go_wp2_with fail
        refine (hMo.out _).mono ?_; rintro e w1 ⟨rfl, rfl⟩
        go_wp2_with fail
        go_quiet (fail)
        go_wp2_with fail
        go_roundw
        case rel => exact ⟨1, by omega, rfl, hnx, (hk.alloc _).drewN _⟩
        case measure => simp [intOf]; omega
      | succ j => exact absurd hlt (by omega)
    · cases m with
      | zero =>
        have hnx := hsx.out hok.out (fun j p hj => by cases hj)
        rw [Nat.zero_mul, Nat.add_zero] at e0 e1
        have dz : ((0 : Nat) : Int) = 0 := rfl
        rw [dz]
        replace hnx := Lib.hid hnx
        clear hprev hsx hrx
        go_wp2_with fail
        refine (hMo.out _).mono ?_; rintro e w1 ⟨rfl, rfl⟩
        go_wp2_with fail
        go_quiet (fail)
        go_wp2_with fail
        go_roundw
        case rel => exact ⟨1, by omega, rfl, hnx, (hk.alloc _).drewN _⟩
        case measure => simp [intOf]; omega
      | succ j =>
        obtain ⟨p, hp, hcp⟩ := hprev.out j rfl
        have hcast : ((j + 1 : Nat) : Int) = (j : Int) + 1 := by omega
        rw [hcast]
        have hj0 : decide ((0 : Int) < (j : Int) + 1) = true := decide_eq_true (by omega)
        have hj1 : ((j : Int) + 1).toNat = j + 1 := by omega
        have hj2 : (j : Int) + 1 < n := by omega
        have hrj := hrx.out j p rfl hp
        have hsj : p.client < x0 → I (j + 1 + 1) := fun h => hsx.out hok.out (by
          intro j' p' hj hp'
          obtain rfl : j = j' := by omega
          rw [hp] at hp'
          injection hp' with hp'
          subst hp'
          exact h)
        obtain ⟨p0, p1⟩ := p
        simp only at hcp hrj hsj
        replace hp := Lib.hid hp
        clear hprev hsx hrx
        by_cases hpc : x0 ≤ p0
        · obtain rfl := hno.out (hrj (by omega))
          have d8 : decide (x0 ≤ p0) = true := decide_eq_true hpc
          clear hrj hsj
          go_wp2_with fail
          refine (hMo.out _).mono ?_; rintro e w1 ⟨rfl, rfl⟩
          go_wp2_with fail
          go_quiet (fail)
          go_wp2
          go_ret
          exact ⟨rfl, (hkw.alloc _).drewN _⟩
        · have hnx := hsj (by omega)
          have d8 : decide (x0 ≤ p0) = false := decide_eq_false hpc
          replace hnx := Lib.hid hnx
          clear hrj hsj
          go_wp2_with fail
          refine (hMo.out _).mono ?_; rintro e w1 ⟨rfl, rfl⟩
          go_wp2_with fail
          go_quiet (fail)
          go_wp2_with fail
          go_roundw
          case rel => exact ⟨j + 1 + 1, by omega, by go_num, hnx, (hk.alloc _).drewN _⟩
          case measure => simp [intOf]; omega

set_option maxRecDepth 100000 in
set_option maxHeartbeats 8000000 in
theorem rright_any (w : World) (L : Lk) (A : Option Addr) (c : Nat) (hb : Els holE 2 w A L.hs) (hl : L.hs.length ≤ 9223372036854775807) :
    Calls Try.prog 10 #[lkV L (.slice A L.hs.length c)] w fun e w' => e = .returned (.bool (decide (RightP L))) ∧ Only [] w w' := by
  obtain ⟨R, hR⟩ : ∃ R, R = decide (RightP L) := ⟨_, rfl⟩
  rw [← hR]
  have hyes : RightP L → R = true := fun h => by rw [hR]; exact decide_eq_true h
  have hno : ¬ RightP L → R = false := fun h => by rw [hR]; exact decide_eq_false h
  have hbad := fun x => not_ok (L := L) (x := x)
  have hris := fun m x p => not_rise (L := L) (m := m) (x := x) (p := p)
  have hz := RInv.zero L
  have hsu := fun n x => RInv.succ (L := L) (n := n) (x := x)
  have hdo := fun n => RInv.done (L := L) (n := n)
  have n1 : ¬ RightP L ∨ L.used ≤ 2 := by by_cases h : L.used ≤ 2; exact .inr h; exact .inl fun r => h r.used
  have n2 : ¬ RightP L ∨ L.cut ≤ 1024 := by by_cases h : L.cut ≤ 1024; exact .inr h; exact .inl fun r => h r.cut
  have n3 : ¬ RightP L ∨ L.hs.length ≤ 4 := by by_cases h : L.hs.length ≤ 4; exact .inr h; exact .inl fun r => h r.len
  have n4 : 0 < L.hs.length → L.fenced = false → ¬ RightP L := fun h0 h r => by have := (r.may h0).1; rw [h] at this; cases this
  have n5 : 0 < L.hs.length → L.gone = true → ¬ RightP L := fun h0 h r => by have := (r.may h0).2; rw [h] at this; cases this
  obtain ⟨P, hP⟩ : ∃ P, P = RightP L := ⟨_, rfl⟩
  obtain ⟨I, hI⟩ : ∃ I, I = RInv L := ⟨_, rfl⟩
  rw [← hP] at hyes hno
  simp only [← hP] at hbad hris hdo n1 n2 n3 n4 n5
  simp only [← hI] at hz hsu hdo
  clear hR hP hI
  obtain ⟨f, e, u, k, fe, go, l⟩ := L
  simp only at hb hl hbad hris hsu hdo n1 n2 n3 n4 n5
  have k0 := (Only.refl [] w).alloc (.cells #[.int .u32 f, .int .u32 e, .int .u32 u, .int .u32 k, .bool fe, .bool go, .slice A l.length c] 25)
  have bx := Lx.new w f e u k fe go l (.slice A l.length c)
  have hlI : (l.length : Int) ≤ 9223372036854775807 := by omega
  simp only [lkV]
  obtain ⟨n, hn⟩ : ∃ n, n = l.length := ⟨_, rfl⟩
  rw [← hn] at hl hlI bx n3 n4 n5 hbad hsu hdo k0 ⊢
  replace hyes := Lib.hid hyes
  replace hno := Lib.hid hno
  replace hbad := Lib.hid hbad
  replace hris := Lib.hid hris
  replace hz := Lib.hid hz
  replace hsu := Lib.hid hsu
  replace hdo := Lib.hid hdo
  replace hn := Lib.hid hn
  by_cases hu : 2 < u
  · have d1 : decide (2 < u) = true := decide_eq_true hu
    obtain rfl := hno.out (by rcases n1 with h | h; exact h; omega)
    replace hu := Lib.hid hu
    clear n1 n2 n3 n4 n5
    go_enter Try.func10, Try.ntmps10
    go_wp2
    go_ret
    exact ⟨rfl, k0⟩
  have d1 : decide (2 < u) = false := decide_eq_false hu
  by_cases hk : 1024 < k
  · have d2 : decide (1024 < k) = true := decide_eq_true hk
    obtain rfl := hno.out (by rcases n2 with h | h; exact h; omega)
    replace hu := Lib.hid hu
    replace hk := Lib.hid hk
    clear n1 n2 n3 n4 n5
    go_enter Try.func10, Try.ntmps10
    go_wp2
    go_ret
    exact ⟨rfl, k0⟩
  have d2 : decide (1024 < k) = false := decide_eq_false hk
  by_cases h4 : (4 : Int) < (n : Int)
  · have d3 : decide ((4 : Int) < (n : Int)) = true := decide_eq_true h4
    obtain rfl := hno.out (by rcases n3 with h | h; exact h; omega)
    replace hu := Lib.hid hu
    replace hk := Lib.hid hk
    clear n1 n2 n3 n4 n5
    go_enter Try.func10, Try.ntmps10
    go_wp2
    go_ret
    exact ⟨rfl, k0⟩
  have d3 : decide ((4 : Int) < (n : Int)) = false := decide_eq_false h4
  have hn4 : n ≤ 4 := by omega
  clear h4 hl hlI
  have g1 := Lib.hid (show u ≤ 2 by omega)
  have g2 := Lib.hid (show k ≤ 1024 by omega)
  replace hu := Lib.hid hu
  replace hk := Lib.hid hk
  replace n1 := Lib.hid n1
  replace n2 := Lib.hid n2
  replace n3 := Lib.hid n3
  replace n4 := Lib.hid n4
  replace n5 := Lib.hid n5
  by_cases hn0 : n = 0
  · subst hn0
    obtain rfl := hyes.out (hdo.out 0 hz.out (Nat.le_refl _) g1.out g2.out (Nat.zero_le _) (fun h => absurd h (Nat.lt_irrefl 0)))
    go_enter Try.func10, Try.ntmps10
    go_wp2_with fail
    go_loopw [4] (fun i wr => i = .int .i64 0 ∧ Only [] (w.alloc (.cells #[.int .u32 f, .int .u32 e, .int .u32 u, .int .u32 k, .bool fe, .bool go, .slice A 0 c] 25)) wr) (fun _ _ => 0)
    case atStart => exact ⟨rfl, Only.refl _ _⟩
    case round =>
      obtain ⟨rfl, hk⟩ := hrel
      go_wp2
      go_ret
      exact ⟨rfl, k0.trans hk⟩
  have hpos : 0 < n := by omega
  have dp : decide ((0 : Int) < (n : Int)) = true := decide_eq_true (by omega)
  cases fe with
  | false =>
    obtain rfl := hno.out (n4.out hpos rfl)
    go_enter Try.func10, Try.ntmps10
    go_wp2
    go_ret
    exact ⟨rfl, k0⟩
  | true =>
  cases go with
  | true =>
    obtain rfl := hno.out (n5.out hpos rfl)
    go_enter Try.func10, Try.ntmps10
    go_wp2
    go_ret
    exact ⟨rfl, k0⟩
  | false =>
  have hdon : Hid (∀ m, I m → n ≤ m → P) := fun m hi hm => hdo.out m hi hm g1.out g2.out hn4 (fun _ => ⟨rfl, rfl⟩)
  go_enter Try.func10, Try.ntmps10
  go_wp2_with fail
  go_loopw [4] (fun i wr => ∃ m : Nat, m ≤ n ∧ i = .int .i64 m ∧ Hid (I m) ∧ Only [] (w.alloc (.cells #[.int .u32 f, .int .u32 e, .int .u32 u, .int .u32 k, .bool true, .bool false, .slice A n c] 25)) wr) (fun i _ => n - (intOf i).toNat)
  case atStart => exact ⟨0, Nat.zero_le _, rfl, hz, Only.refl _ _⟩
  case round =>
    obtain ⟨m, hm, rfl, hi, hk⟩ := hrel
    have hkw := k0.trans hk
    obtain ⟨c0, c1, c2, c3, c4, c5, c6⟩ := bx.at hk (by simp)
    by_cases hlt : m < n
    rotate_left
    · obtain rfl := hyes.out (hdon.out m hi.out (by omega))
      go_wp2
      go_ret
      exact ⟨rfl, hkw⟩
    have hltl : m < l.length := by rw [← hn.out]; exact hlt
    obtain ⟨g, o, hA, hg, hat⟩ := hb.get hltl
    have hat' := hat.kept hkw (by simp)
    obtain ⟨e0, e1⟩ := hols_at hat' hltl
    have hx : l[m]? = some l[m] := List.getElem?_eq_getElem hltl
    have hxm : l[m] ∈ l := List.getElem_mem hltl
    have hprev : ∀ j, m = j + 1 → ∃ p : Hol, l[j]? = some p ∧ wr.cell? ⟨g, o + j * 2, none⟩ = some (.int .u32 p.client) := fun j hj => by
      have hj' : j < l.length := by omega
      exact ⟨l[j], List.getElem?_eq_getElem hj', (hols_at hat' hj').1⟩
    generalize l[m] = x at *
    have hbx := hbad.out x hxm
    have hsx := hsu.out m x hi.out hx
    have hrx := fun j p (hj : m = j + 1) (hp : l[j]? = some p) => hris.out j x p hp (by rw [← hj]; exact hx)
    obtain ⟨x0, x1⟩ := x
    simp only [okH] at hbx hsx
    simp only at e0 e1 hrx hsx
    subst hA
    replace hbx := Lib.hid hbx
    replace hsx := Lib.hid hsx
    replace hrx := Lib.hid hrx
    replace hprev := Lib.hid hprev
    replace hx := Lib.hid hx
    replace hxm := Lib.hid hxm
    replace hi := Lib.hid hi
    clear hat hat' hb
    have hbadm : (decide (x1 < 1) = true ∧ ¬ okH u n ⟨x0, x1⟩) ∨ (decide (x1 < 1) = false ∧ decide (2 < x1) = true ∧ ¬ okH u n ⟨x0, x1⟩) ∨ (decide (x1 < 1) = false ∧ decide (2 < x1) = false ∧ decide (u < x1) = true ∧ ¬ okH u n ⟨x0, x1⟩)
        ∨ (decide (x1 < 1) = false ∧ decide (2 < x1) = false ∧ decide (u < x1) = false ∧ (x1 == 2) = true ∧ ((n : Int) != 1) = true ∧ ¬ okH u n ⟨x0, x1⟩)
        ∨ (decide (x1 < 1) = false ∧ decide (2 < x1) = false ∧ decide (u < x1) = false ∧ (x1 == 2) = true ∧ ((n : Int) != 1) = false ∧ okH u n ⟨x0, x1⟩)
        ∨ (decide (x1 < 1) = false ∧ decide (2 < x1) = false ∧ decide (u < x1) = false ∧ (x1 == 2) = false ∧ okH u n ⟨x0, x1⟩) := by
      simp only [okH, decide_eq_true_eq, decide_eq_false_iff_not, beq_iff_eq, beq_eq_false_iff_ne, bne_iff_ne, ne_eq, bne_eq_false_iff_eq]
      by_cases a1 : x1 < 1
      · exact .inl ⟨a1, by omega⟩
      by_cases a2 : 2 < x1
      · exact .inr (.inl ⟨a1, a2, by omega⟩)
      by_cases a3 : u < x1
      · exact .inr (.inr (.inl ⟨a1, a2, a3, by omega⟩))
      by_cases a4 : x1 = 2
      · by_cases a5 : (n : Int) = 1
        · exact .inr (.inr (.inr (.inr (.inl ⟨a1, a2, a3, a4, by omega, by omega⟩))))
        · exact .inr (.inr (.inr (.inl ⟨a1, a2, a3, a4, by omega, by omega⟩)))
      · exact .inr (.inr (.inr (.inr (.inr ⟨a1, a2, a3, a4, by omega⟩))))
    rcases hbadm with ⟨d4, h⟩ | ⟨d4, d5, h⟩ | ⟨d4, d5, d6, h⟩ | ⟨d4, d5, d6, d7, d8, h⟩ | ⟨d4, d5, d6, d7, d8, h⟩ | ⟨d4, d5, d6, d7, h⟩
    · obtain rfl := hno.out (hbx.out h)
      clear h hbx hsx hrx hprev
      go_wp2_with fail
      go_quiet (fail)
      go_wp2
      go_ret
      exact ⟨rfl, hkw.drewN _⟩
    · obtain rfl := hno.out (hbx.out h)
      clear h hbx hsx hrx hprev
      go_wp2_with fail
      go_quiet (fail)
      go_wp2
      go_ret
      exact ⟨rfl, hkw.drewN _⟩
    · obtain rfl := hno.out (hbx.out h)
      clear h hbx hsx hrx hprev
      go_wp2_with fail
      go_quiet (fail)
      go_wp2
      go_ret
      exact ⟨rfl, hkw.drewN _⟩
    · obtain rfl := hno.out (hbx.out h)
      clear h hbx hsx hrx hprev
      go_wp2_with fail
      go_quiet (fail)
      go_wp2
      go_ret
      exact ⟨rfl, hkw.drewN _⟩
    · have hok := Lib.hid h
      clear h hbx
      cases m with
      | zero =>
        have hnx := hsx.out hok.out (fun j p hj => by cases hj)
        rw [Nat.zero_mul, Nat.add_zero] at e0 e1
        have dz : ((0 : Nat) : Int) = 0 := rfl
        rw [dz]
        replace hnx := Lib.hid hnx
        clear hprev hsx hrx
        go_wp2_with fail
        go_quiet (fail)
        go_wp2_with fail
        go_roundw
        case rel => exact ⟨1, by omega, rfl, hnx, hk.drewN _⟩
        case measure => simp [intOf]; omega
      | succ j =>
        have d9 : (n : Int) = 1 := by simpa using d8
        exact absurd hlt (by omega)
    · have hok := Lib.hid h
      clear h hbx
      cases m with
      | zero =>
        have hnx := hsx.out hok.out (fun j p hj => by cases hj)
        rw [Nat.zero_mul, Nat.add_zero] at e0 e1
        have dz : ((0 : Nat) : Int) = 0 := rfl
        rw [dz]
        replace hnx := Lib.hid hnx
        clear hprev hsx hrx
        go_wp2_with fail
        go_quiet (fail)
        go_wp2_with fail
        go_roundw
        case rel => exact ⟨1, by omega, rfl, hnx, hk.drewN _⟩
        case measure => simp [intOf]; omega
      | succ j =>
        obtain ⟨p, hp, hcp⟩ := hprev.out j rfl
        have hcast : ((j + 1 : Nat) : Int) = (j : Int) + 1 := by omega
        rw [hcast]
        have hj0 : decide ((0 : Int) < (j : Int) + 1) = true := decide_eq_true (by omega)
        have hj1 : ((j : Int) + 1).toNat = j + 1 := by omega
        have hj2 : (j : Int) + 1 < n := by omega
        have hrj := hrx.out j p rfl hp
        have hsj : p.client < x0 → I (j + 1 + 1) := fun h => hsx.out hok.out (by
          intro j' p' hj hp'
          obtain rfl : j = j' := by omega
          rw [hp] at hp'
          injection hp' with hp'
          subst hp'
          exact h)
        obtain ⟨p0, p1⟩ := p
        simp only at hcp hrj hsj
        replace hp := Lib.hid hp
        clear hprev hsx hrx
        by_cases hpc : x0 ≤ p0
        · obtain rfl := hno.out (hrj (by omega))
          have d9 : decide (x0 ≤ p0) = true := decide_eq_true hpc
          clear hrj hsj
          go_wp2_with fail
          go_quiet (fail)
          go_wp2
          go_ret
          exact ⟨rfl, hkw.drewN _⟩
        · have hnx := hsj (by omega)
          have d9 : decide (x0 ≤ p0) = false := decide_eq_false hpc
          replace hnx := Lib.hid hnx
          clear hrj hsj
          go_wp2_with fail
          go_quiet (fail)
          go_wp2_with fail
          go_roundw
          case rel => exact ⟨j + 1 + 1, by omega, by go_num, hnx, hk.drewN _⟩
          case measure => simp [intOf]; omega
end Go.Proofs.Ytnmmdnecojgccaa
