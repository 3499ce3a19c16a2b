/- A log's size, its number, its reading; whether blocks may be committed. -/
import Derived.Test.YtihoebmfanelkaaWal6
namespace Go.Proofs.Ytihoebmfanelkaa
open Go.RowKit

theorem size_nil (w : World) : Calls Try.prog 16 #[.pointer none] w fun e w' => e = .returned (.int .i64 0) ∧ w' = w := by
  go_enter Try.func16, Try.ntmps16
  go_wp2
  go_ret
  exact ⟨rfl, rfl⟩
theorem last_nil (w : World) : Calls Try.prog 15 #[.pointer none] w fun e w' => e = .returned (.int .u32 0) ∧ w' = w := by
  go_enter Try.func15, Try.ntmps15
  go_wp2
  go_ret
  exact ⟨rfl, rfl⟩
theorem lread_nil (w : World) (k : Int) : Calls Try.prog 25 #[.pointer none, .int .i64 k] w fun e w' => e = .returned (.tuple #[.string (strOf []), .int .i64 5]) ∧ w' = w := by
  go_enter Try.func25, Try.ntmps25
  go_wp2
  go_ret2
  exact ⟨rfl, rfl⟩

theorem LogB.cells {w : World} {lp p n : Nat} {f : Bool} (h : LogB w lp p n f) : w.cell? ⟨lp, 0, none⟩ = some (.pointer (some ⟨p, 0, none⟩)) ∧ w.cell? ⟨lp, 1, none⟩ = some (.int .u32 (n : Int)) ∧ w.cell? ⟨lp, 2, none⟩ = some (.bool f) := by
  have c0 := Blk.cell h 0
  have c1 := Blk.cell h 1
  have c2 := Blk.cell h 2
  simp only [List.getElem?_toArray, List.getElem?_cons_zero, List.getElem?_cons_succ] at c0 c1 c2
  exact ⟨c0, c1, c2⟩

theorem last_any (w : World) (lp p n : Nat) (f : Bool) (h : LogB w lp p n f) : Calls Try.prog 15 #[.pointer (some ⟨lp, 0, none⟩)] w fun e w' => e = .returned (.int .u32 (n : Int)) ∧ w' = w := by
  obtain ⟨_, c1, _⟩ := h.cells
  clear h
  generalize (n : Int) = x at *
  go_enter Try.func15, Try.ntmps15
  go_wp2
  go_ret
  exact ⟨rfl, rfl⟩

theorem size_any (w : World) (lp p n : Nat) (f : Bool) (F : List Nat) (s : St) (h : LogB w lp p n f) (hd : Dev w p F s) :
    Calls Try.prog 16 #[.pointer (some ⟨lp, 0, none⟩)] w fun e w' => e = .returned (.int .i64 ((s.firm.length : Int) - 41)) ∧ w' = w := by
  obtain ⟨c0, _, _⟩ := h.cells
  have hb := blocks_any w p F s hd
  have hfew := hd.fine.few
  have hw : wrap64 ((s.firm.length : Int) - 41) = (s.firm.length : Int) - 41 := by simp only [wrap64]; omega
  clear h hd hfew
  generalize (s.firm.length : Int) = N at *
  go_enter Try.func16, Try.ntmps16
  go_wp2_with fail
  refine hb.mono ?_
  rintro e w1 ⟨rfl, rfl⟩
  go_wp2
  go_ret
  refine ⟨?_, rfl⟩
  show Ending.returned (.int .i64 (wrap64 (N - 41))) = _
  rw [hw]

def hasHome (n : Nat) (k : Int) : Bool := decide (0 ≤ k ∧ k < (n : Int) - 41)
theorem lhas_any (w : World) (lp p n : Nat) (f : Bool) (F : List Nat) (s : St) (k : Int) (h : LogB w lp p n f) (hd : Dev w p F s) :
    Calls Try.prog 47 #[.pointer (some ⟨lp, 0, none⟩), .int .i64 k] w fun e w' => e = .returned (.bool (hasHome s.firm.length k)) ∧ w' = w := by
  have hs := size_any w lp p n f F s h hd
  clear h hd
  have hh : hasHome s.firm.length k = decide (0 ≤ k ∧ k < (s.firm.length : Int) - 41) := rfl
  rw [hh]
  generalize (s.firm.length : Int) - 41 = N at *
  by_cases h0 : 0 ≤ k
  · have e : decide (0 ≤ k ∧ k < N) = decide (k < N) := by simp [h0]
    rw [e]
    go_enter Try.func47, Try.ntmps47
    go_wp2_with fail
    refine hs.mono ?_
    rintro e w1 ⟨rfl, rfl⟩
    go_wp2
    go_ret
    exact ⟨rfl, rfl⟩
  · have e : decide (0 ≤ k ∧ k < N) = false := by simp [h0]
    rw [e]
    go_enter Try.func47, Try.ntmps47
    go_wp2
    go_ret
    exact ⟨by simp, rfl⟩

def lreadErr (s : St) (f : Bool) (k : Int) : Int := if hasHome s.firm.length k = false then 1 else if f = true then 5 else if s.dead = true then 5 else 0
def lreadB (s : St) (f : Bool) (k : Int) : List UInt8 := if hasHome s.firm.length k = false then [] else if f = true then [] else if s.dead = true then [] else (blkB s (41 + k.toNat)).drop 8

theorem lread_any (w : World) (lp p n : Nat) (f : Bool) (F : List Nat) (s : St) (k : Int) (h : LogB w lp p n f) (hd : Dev w p F s) :
    Calls Try.prog 25 #[.pointer (some ⟨lp, 0, none⟩), .int .i64 k] w fun e w' => e = .returned (.tuple #[.string (strOf (lreadB s f k)), .int .i64 (lreadErr s f k)]) ∧ w' = w := by
  obtain ⟨c0, _, c2⟩ := h.cells
  have hh := lhas_any w lp p n f F s k h hd
  cases hk : hasHome s.firm.length k with
  | false =>
    rw [hk] at hh
    have e1 : lreadErr s f k = 1 := by rw [lreadErr, if_pos hk]
    have e2 : lreadB s f k = [] := by rw [lreadB, if_pos hk]
    rw [e1, e2]
    clear h hd e1 e2 hk
    go_enter Try.func25, Try.ntmps25
    go_wp2_with fail
    refine hh.mono ?_
    rintro e w1 ⟨rfl, rfl⟩
    go_wp2
    go_ret2
    exact ⟨rfl, rfl⟩
  | true =>
    rw [hk] at hh
    have hkn : ¬ hasHome s.firm.length k = false := by rw [hk]; decide
    cases hf : f with
    | true =>
      have e1 : lreadErr s true k = 5 := by rw [lreadErr, if_neg hkn, if_pos rfl]
      have e2 : lreadB s true k = [] := by rw [lreadB, if_neg hkn, if_pos rfl]
      rw [e1, e2]
      rw [hf] at c2
      clear h hd e1 e2 hk hkn
      go_enter Try.func25, Try.ntmps25
      go_wp2_with fail
      refine hh.mono ?_
      rintro e w1 ⟨rfl, rfl⟩
      go_wp2
      go_ret2
      exact ⟨rfl, rfl⟩
    | false =>
      rw [hf] at c2
      have hk' : 0 ≤ k ∧ k < (s.firm.length : Int) - 41 := by simpa [hasHome] using hk
      obtain ⟨k, rfl⟩ := Int.eq_ofNat_of_zero_le hk'.1
      have hr := read_any w p F s ((41 + k : Nat) : Int) hd
      have hfew := hd.fine.few
      have hw : wrap64 (41 + (k : Int)) = 41 + (k : Int) := by simp only [wrap64]; omega
      cases hdead : s.dead with
      | true =>
        have hhb : hasBlock s.firm.length ((41 + k : Nat) : Int) = true := by simp only [hasBlock, decide_eq_true_eq]; omega
        have e1 : lreadErr s false k = 5 := by rw [lreadErr, if_neg hkn, if_neg (by decide), if_pos hdead]
        have e2 : lreadB s false k = [] := by rw [lreadB, if_neg hkn, if_neg (by decide), if_pos hdead]
        have r1 : readErr s ((41 + k : Nat) : Int) = 5 := by rw [readErr, if_neg (by rw [hhb]; decide), if_pos hdead]
        rw [e1, e2]
        rw [r1] at hr
        rw [show ((41 + k : Nat) : Int) = 41 + (k : Int) by omega] at hr
        generalize strOf (readB s (41 + (k : Int))) = rb at *
        clear h hd e1 e2 hk hkn r1 hhb hk' hfew
        go_enter Try.func25, Try.ntmps25
        go_wp2_with fail
        refine hh.mono ?_
        rintro e w1 ⟨rfl, rfl⟩
        go_wp2_with fail
        refine hr.mono ?_
        rintro e w1 ⟨rfl, rfl⟩
        go_wp2
        go_ret2
        exact ⟨rfl, rfl⟩
      | false =>
        obtain ⟨r1, r2⟩ := readB_blk s (41 + k) (by omega) hdead
        have e1 : lreadErr s false k = 0 := by rw [lreadErr, if_neg hkn, if_neg (by decide), if_neg (by rw [hdead]; decide)]
        have e2 : lreadB s false k = (blkB s (41 + k)).drop 8 := by rw [lreadB, if_neg hkn, if_neg (by decide), if_neg (by rw [hdead]; decide)]; rfl
        have hl := hd.fine.blk (k := 41 + k) (by omega)
        rw [r1, r2] at hr
        rw [show ((41 + k : Nat) : Int) = 41 + (k : Int) by omega] at hr
        rw [e1, e2]
        have hcut := from_strOf (P := Try.prog) 9 Try.underlying9 (blkB s (41 + k)) 8 8 .i64 rfl (by omega)
        generalize strOf ((blkB s (41 + k)).drop 8) = y at *
        generalize strOf (blkB s (41 + k)) = x at *
        clear h hd e1 e2 hk hkn r1 r2 hk' hfew hl
        go_enter Try.func25, Try.ntmps25
        go_wp2_with fail
        refine hh.mono ?_
        rintro e w1 ⟨rfl, rfl⟩
        go_wp2_with fail
        refine hr.mono ?_
        rintro e w1 ⟨rfl, rfl⟩
        go_wp2
        go_ret2
        exact ⟨rfl, rfl⟩

/-! Is there one among the first blocks that is at the same place? -/
theorem isSame_any (w : World) (a b : Int) (x : ByteArray) (q : Nat) (h : w.cell? ⟨q, 0, none⟩ = some (.int .i64 b)) :
    Calls Try.prog 70 #[.agg #[.int .i64 a, .string x], .pointer (some ⟨q, 0, none⟩)] w fun e w' => e = .returned (.bool (a == b)) ∧ Only [] w w' := by
  have k : Only [] w (w.alloc (.cells #[.int .i64 a, .string x] 64)) := (Only.refl [] w).alloc _
  have h' := k.cell h (by simp)
  go_enter Try.func70, Try.ntmps70
  go_wp2
  go_ret
  exact ⟨rfl, k⟩

def Among (l : List Bk) (n : Nat) (b : Int) : Prop := ∃ k y, k < n ∧ l[k]? = some y ∧ y.at_ = b

set_option maxRecDepth 100000 in
theorem index_any (w : World) (g o c n : Nat) (l : List Bk) (b : Int) (q : Nat) (hat : BlksAt w g o l) (hn : n ≤ l.length) (hl : l.length ≤ 1048576) (h : w.cell? ⟨q, 0, none⟩ = some (.int .i64 b)) :
    Calls Try.prog 75 #[.slice (some ⟨g, o, none⟩) n c, .func (.func 70) #[] #[.pointer (some ⟨q, 0, none⟩)]] w fun e w' => (∃ r : Int, e = .returned (.int .i64 r) ∧ (0 ≤ r ↔ Among l n b)) ∧ Only [] w w' := by
  go_enter Try.func75, Try.ntmps75
  go_wp2_with fail
  go_loopw [8] (fun i wr => ∃ k : Nat, k ≤ n ∧ i = .int .i64 k ∧ Hid (∀ j y, j < k → l[j]? = some y → y.at_ ≠ b) ∧ Only [] w wr) (fun i _ => n - (intOf i).toNat)
  case atStart => exact ⟨0, Nat.zero_le _, rfl, fun j y hj => by omega, Only.refl _ _⟩
  case round =>
    obtain ⟨k, hk, rfl, hno, honly⟩ := hrel
    by_cases hlt : k < n
    · have hkl : k < l.length := by omega
      have c0 := honly.cell (hat k hkl).1 (by simp)
      have c1 := honly.cell (hat k hkl).2 (by simp)
      have hq := honly.cell h (by simp)
      have hx : l[k]? = some l[k] := List.getElem?_eq_getElem hkl
      generalize l[k] = x at *
      obtain ⟨at_, data⟩ := x
      simp only at c0 c1
      generalize strOf data = bs at *
      have hs := isSame_any wr at_ b bs q hq
      by_cases he : at_ = b
      · have he2 : (at_ == b) = true := by simpa using he
        rw [he2] at hs
        have hyes : Hid (Among l n b) := ⟨k, _, hlt, hx, he⟩
        replace hs := Lib.hid hs
        clear he2 he hx
        go_wp2_with fail
        refine hs.out.mono ?_
        rintro e w2 ⟨rfl, k2⟩
        have kend := honly.trans k2
        clear k2 c0 c1 hq
        go_wp2
        go_ret
        exact ⟨⟨_, rfl, fun _ => hyes, fun _ => by omega⟩, kend⟩
      · have he2 : (at_ == b) = false := by simpa using he
        rw [he2] at hs
        have hno2 : Hid (∀ j y, j < k + 1 → l[j]? = some y → y.at_ ≠ b) := fun j y hj hy => by
          by_cases hjk : j = k
          · subst hjk
            rw [hx] at hy
            injection hy with hy
            subst hy
            exact he
          · exact hno.out j y (by omega) hy
        replace hs := Lib.hid hs
        clear he2 he hx hno
        go_wp2_with fail
        refine hs.out.mono ?_
        rintro e w2 ⟨rfl, k2⟩
        have kend := honly.trans k2
        clear k2 c0 c1 hq
        go_wp2
        go_roundw
        case rel => exact ⟨k + 1, by omega, by go_num, hno2, kend⟩
        case measure => simp [intOf]; omega
    · have hkn : k = n := by omega
      subst hkn
      have hnot : Hid (¬ Among l k b) := fun ⟨j, y, hj, hy, he⟩ => hno.out j y hj hy he
      clear hno
      go_wp2
      go_ret
      exact ⟨⟨_, rfl, fun h => absurd h (by decide), fun h => absurd h hnot.out⟩, honly⟩

theorem contains_any (w : World) (g o c n : Nat) (l : List Bk) (b : Int) (q : Nat) (hat : BlksAt w g o l) (hn : n ≤ l.length) (hl : l.length ≤ 1048576) (h : w.cell? ⟨q, 0, none⟩ = some (.int .i64 b)) :
    Calls Try.prog 71 #[.slice (some ⟨g, o, none⟩) n c, .func (.func 70) #[] #[.pointer (some ⟨q, 0, none⟩)]] w fun e w' => Says (Among l n b) e ∧ Only [] w w' := by
  go_enter Try.func71, Try.ntmps71
  go_wp2_with fail
  refine (index_any _ g o c n l b q hat hn hl h).mono ?_
  rintro e w1 ⟨⟨r, rfl, hr⟩, k1⟩
  replace hr := Lib.hid hr
  go_wp2
  go_ret
  exact ⟨⟨_, rfl, by rw [← hr.out]; simp⟩, k1⟩

end Go.Proofs.Ytihoebmfanelkaa
