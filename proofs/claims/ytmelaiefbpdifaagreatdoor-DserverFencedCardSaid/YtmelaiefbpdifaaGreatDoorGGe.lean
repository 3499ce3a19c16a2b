/- Joined: Wal7, Wal8, Wal9, Sem, Own. -/
import Derived.Test.YtmelaiefbpdifaaGreatDoorGGd
/- A log's size, its number, its reading; whether blocks may be committed. -/
namespace Go.Proofs.YtmelaiefbpdifaaGreatDoor
open Go.RowKit
theorem LogB.cells {w : World} {lp p n : Nat} {f : Bool} (h : LogB w lp p n f) : w.cell? ⟨lp, 0, none⟩ = some (.pointer (some ⟨p, 0, none⟩)) ∧ w.cell? ⟨lp, 1, none⟩ = some (.int .u32 (n : Int)) ∧ w.cell? ⟨lp, 2, none⟩ = some (.bool f) := by
 have c0 := Blk.cell h 0
 have c1 := Blk.cell h 1
 have c2 := Blk.cell h 2
 simp only [List.getElem?_toArray, List.getElem?_cons_zero, List.getElem?_cons_succ] at c0 c1 c2
 exact ⟨c0, c1, c2⟩
theorem size_any (w : World) (lp p n : Nat) (f : Bool) (F : List Nat) (s : St) (h : LogB w lp p n f) (hd : Dev w p F s) :
  Calls Tryz.prog 34 #[.pointer (some ⟨lp, 0, none⟩)] w fun e w' => e = .returned (.int .i64 ((s.firm.length : Int) - 41)) ∧ w' = w := by
 obtain ⟨c0, _, _⟩ := h.cells
 have hb := blocks_any w p F s hd
 have hfew := hd.fine.few
 have hw : wrap64 ((s.firm.length : Int) - 41) = (s.firm.length : Int) - 41 := by simp only [wrap64]; omega
 clear h hd hfew
 generalize (s.firm.length : Int) = N at *
 go_enter Tryz.func34, Tryz.ntmps34
 go_wp2_with fail
 refine hb.mono ?_
 rintro e w1 ⟨rfl, rfl⟩
 go_wp2
 go_ret
 refine ⟨?_, rfl⟩
 show Ending.returned (.int .i64 (wrap64 (N - 41))) = _
 rw [hw]
def hasHome (n : Nat) (k : Int) : Bool := decide (0 ≤ k ∧ k < (n : Int) - 41)
theorem lhas_any (w : World) (lp p n : Nat) (f : Bool) (F : List Nat) (s : St) (k : Int) (h : LogB w lp p n f) (hd : Dev w p F s) :
  Calls Tryz.prog 133 #[.pointer (some ⟨lp, 0, none⟩), .int .i64 k] w fun e w' => e = .returned (.bool (hasHome s.firm.length k)) ∧ w' = w := by
 have hs := size_any w lp p n f F s h hd
 clear h hd
 have hh : hasHome s.firm.length k = decide (0 ≤ k ∧ k < (s.firm.length : Int) - 41) := rfl
 rw [hh]
 generalize (s.firm.length : Int) - 41 = N at *
 by_cases h0 : 0 ≤ k
 ·have e : decide (0 ≤ k ∧ k < N) = decide (k < N) := by simp [h0]
  rw [e]
  go_enter Tryz.func133, Tryz.ntmps133
  go_wp2_with fail
  refine hs.mono ?_
  rintro e w1 ⟨rfl, rfl⟩
  go_wp2
  go_ret
  exact ⟨rfl, rfl⟩
 ·have e : decide (0 ≤ k ∧ k < N) = false := by simp [h0]
  rw [e]
  go_enter Tryz.func133, Tryz.ntmps133
  go_wp2
  go_ret
  exact ⟨by simp, rfl⟩
def lreadErr (s : St) (f : Bool) (k : Int) : Int := if hasHome s.firm.length k = false then 1 else if f = true then 5 else if s.dead = true then 5 else 0
def lreadB (s : St) (f : Bool) (k : Int) : List UInt8 := if hasHome s.firm.length k = false then [] else if f = true then [] else if s.dead = true then [] else (blkB s (41 + k.toNat)).drop 8
theorem lread_any (w : World) (lp p n : Nat) (f : Bool) (F : List Nat) (s : St) (k : Int) (h : LogB w lp p n f) (hd : Dev w p F s) :
  Calls Tryz.prog 75 #[.pointer (some ⟨lp, 0, none⟩), .int .i64 k] w fun e w' => e = .returned (.tuple #[.string (strOf (lreadB s f k)), .int .i64 (lreadErr s f k)]) ∧ w' = w := by
 obtain ⟨c0, _, c2⟩ := h.cells
 have hh := lhas_any w lp p n f F s k h hd
 cases hk : hasHome s.firm.length k with
 | false =>
  rw [hk] at hh
  have e1 : lreadErr s f k = 1 := by rw [lreadErr, if_pos hk]
  have e2 : lreadB s f k = [] := by rw [lreadB, if_pos hk]
  rw [e1, e2]
  clear h hd e1 e2 hk
  go_enter Tryz.func75, Tryz.ntmps75
  go_wp2_with fail
  refine hh.mono ?_
  rintro e w1 ⟨rfl, rfl⟩
  go_wp2
  go_ret2
  exact ⟨rfl, rfl⟩
 | true =>
  rw [hk] at hh
  have hkn : ¬ hasHome s.firm.length k = false := by rw [hk]; decide
  cases hf : f with
  | true =>
   have e1 : lreadErr s true k = 5 := by rw [lreadErr, if_neg hkn, if_pos rfl]
   have e2 : lreadB s true k = [] := by rw [lreadB, if_neg hkn, if_pos rfl]
   rw [e1, e2]
   rw [hf] at c2
   clear h hd e1 e2 hk hkn
   go_enter Tryz.func75, Tryz.ntmps75
   go_wp2_with fail
   refine hh.mono ?_
   rintro e w1 ⟨rfl, rfl⟩
   go_wp2
   go_ret2
   exact ⟨rfl, rfl⟩
  | false =>
   rw [hf] at c2
   have hk' : 0 ≤ k ∧ k < (s.firm.length : Int) - 41 := by simpa [hasHome] using hk
   obtain ⟨k, rfl⟩ := Int.eq_ofNat_of_zero_le hk'.1
   have hr := read_any w p F s ((41 + k : Nat) : Int) hd
   have hfew := hd.fine.few
   have hw : wrap64 (41 + (k : Int)) = 41 + (k : Int) := by simp only [wrap64]; omega
   cases hdead : s.dead with
   | true =>
    have hhb : hasBlock s.firm.length ((41 + k : Nat) : Int) = true := by simp only [hasBlock, decide_eq_true_eq]; omega
    have e1 : lreadErr s false k = 5 := by rw [lreadErr, if_neg hkn, if_neg (by decide), if_pos hdead]
    have e2 : lreadB s false k = [] := by rw [lreadB, if_neg hkn, if_neg (by decide), if_pos hdead]
    have r1 : readErr s ((41 + k : Nat) : Int) = 5 := by rw [readErr, if_neg (by rw [hhb]; decide), if_pos hdead]
    rw [e1, e2]
    rw [r1] at hr
    rw [show ((41 + k : Nat) : Int) = 41 + (k : Int) by omega] at hr
    generalize strOf (readB s (41 + (k : Int))) = rb at *
    clear h hd e1 e2 hk hkn r1 hhb hk' hfew
    go_enter Tryz.func75, Tryz.ntmps75
    go_wp2_with fail
    refine hh.mono ?_
    rintro e w1 ⟨rfl, rfl⟩
    go_wp2_with fail
    refine hr.mono ?_
    rintro e w1 ⟨rfl, rfl⟩
    go_wp2
    go_ret2
    exact ⟨rfl, rfl⟩
   | false =>
    obtain ⟨r1, r2⟩ := readB_blk s (41 + k) (by omega) hdead
    have e1 : lreadErr s false k = 0 := by rw [lreadErr, if_neg hkn, if_neg (by decide), if_neg (by rw [hdead]; decide)]
    have e2 : lreadB s false k = (blkB s (41 + k)).drop 8 := by rw [lreadB, if_neg hkn, if_neg (by decide), if_neg (by rw [hdead]; decide)]; rfl
    have hl := hd.fine.blk (k := 41 + k) (by omega)
    rw [r1, r2] at hr
    rw [show ((41 + k : Nat) : Int) = 41 + (k : Int) by omega] at hr
    rw [e1, e2]
    have hcut := from_strOf (P := Tryz.prog) 9 Tryz.underlying9 (blkB s (41 + k)) 8 8 .i64 rfl (by omega)
    generalize strOf ((blkB s (41 + k)).drop 8) = y at *
    generalize strOf (blkB s (41 + k)) = x at *
    clear h hd e1 e2 hk hkn r1 r2 hk' hfew hl
    go_enter Tryz.func75, Tryz.ntmps75
    go_wp2_with fail
    refine hh.mono ?_
    rintro e w1 ⟨rfl, rfl⟩
    go_wp2_with fail
    refine hr.mono ?_
    rintro e w1 ⟨rfl, rfl⟩
    go_wp2
    go_ret2
    exact ⟨rfl, rfl⟩
theorem isSame_any (w : World) (a b : Int) (x : ByteArray) (q : Nat) (h : w.cell? ⟨q, 0, none⟩ = some (.int .i64 b)) :
  Calls Tryz.prog 193 #[.agg #[.int .i64 a, .string x], .pointer (some ⟨q, 0, none⟩)] w fun e w' => e = .returned (.bool (a == b)) ∧ Only [] w w' := by
 have k : Only [] w (w.alloc (.cells #[.int .i64 a, .string x] 184)) := (Only.refl [] w).alloc _
 have h' := k.cell h (by simp)
 go_enter Tryz.func193, Tryz.ntmps193
 go_wp2
 go_ret
 exact ⟨rfl, k⟩
def Among (l : List Bk) (n : Nat) (b : Int) : Prop := ∃ k y, k < n ∧ l[k]? = some y ∧ y.at_ = b
set_option maxRecDepth 100000 in
theorem index_any (w : World) (g o c n : Nat) (l : List Bk) (b : Int) (q : Nat) (hat : BlksAt w g o l) (hn : n ≤ l.length) (hl : l.length ≤ 1048576) (h : w.cell? ⟨q, 0, none⟩ = some (.int .i64 b)) :
  Calls Tryz.prog 224 #[.slice (some ⟨g, o, none⟩) n c, .func (.func 193) #[] #[.pointer (some ⟨q, 0, none⟩)]] w fun e w' => (∃ r : Int, e = .returned (.int .i64 r) ∧ (0 ≤ r ↔ Among l n b)) ∧ Only [] w w' := by
 go_enter Tryz.func224, Tryz.ntmps224
 go_wp2_with fail
 go_loopw [8] (fun i wr => ∃ k : Nat, k ≤ n ∧ i = .int .i64 k ∧ Hid (∀ j y, j < k → l[j]? = some y → y.at_ ≠ b) ∧ Only [] w wr) (fun i _ => n - (intOf i).toNat)
 case atStart => exact ⟨0, Nat.zero_le _, rfl, fun j y hj => by omega, Only.refl _ _⟩
 case round =>
  obtain ⟨k, hk, rfl, hno, honly⟩ := hrel
  by_cases hlt : k < n
  ·have hkl : k < l.length := by omega
   have c0 := honly.cell (hat k hkl).1 (by simp)
   have c1 := honly.cell (hat k hkl).2 (by simp)
   have hq := honly.cell h (by simp)
   have hx : l[k]? = some l[k] := List.getElem?_eq_getElem hkl
   generalize l[k] = x at *
   obtain ⟨at_, data⟩ := x
   simp only at c0 c1
   generalize strOf data = bs at *
   have hs := isSame_any wr at_ b bs q hq
   by_cases he : at_ = b
   ·have he2 : (at_ == b) = true := by simpa using he
    rw [he2] at hs
    have hyes : Hid (Among l n b) := ⟨k, _, hlt, hx, he⟩
    replace hs := Lib.hid hs
    clear he2 he hx
    go_wp2_with fail
    refine hs.out.mono ?_
    rintro e w2 ⟨rfl, k2⟩
    have kend := honly.trans k2
    clear k2 c0 c1 hq
    go_wp2
    go_ret
    exact ⟨⟨_, rfl, fun _ => hyes, fun _ => by omega⟩, kend⟩
   ·have he2 : (at_ == b) = false := by simpa using he
    rw [he2] at hs
    have hno2 : Hid (∀ j y, j < k + 1 → l[j]? = some y → y.at_ ≠ b) := fun j y hj hy => by
     by_cases hjk : j = k
     ·subst hjk
      rw [hx] at hy
      injection hy with hy
      subst hy
      exact he
     ·exact hno.out j y (by omega) hy
    replace hs := Lib.hid hs
    clear he2 he hx hno
    go_wp2_with fail
    refine hs.out.mono ?_
    rintro e w2 ⟨rfl, k2⟩
    have kend := honly.trans k2
    clear k2 c0 c1 hq
    go_wp2
    go_roundw
    case rel => exact ⟨k + 1, by omega, by go_num, hno2, kend⟩
    case measure => simp [intOf]; omega
  ·have hkn : k = n := by omega
   subst hkn
   have hnot : Hid (¬ Among l k b) := fun ⟨j, y, hj, hy, he⟩ => hno.out j y hj hy he
   clear hno
   go_wp2
   go_ret
   exact ⟨⟨_, rfl, fun h => absurd h (by decide), fun h => absurd h hnot.out⟩, honly⟩
theorem contains_any (w : World) (g o c n : Nat) (l : List Bk) (b : Int) (q : Nat) (hat : BlksAt w g o l) (hn : n ≤ l.length) (hl : l.length ≤ 1048576) (h : w.cell? ⟨q, 0, none⟩ = some (.int .i64 b)) :
  Calls Tryz.prog 194 #[.slice (some ⟨g, o, none⟩) n c, .func (.func 193) #[] #[.pointer (some ⟨q, 0, none⟩)]] w fun e w' => Says (Among l n b) e ∧ Only [] w w' := by
 go_enter Tryz.func194, Tryz.ntmps194
 go_wp2_with fail
 refine (index_any _ g o c n l b q hat hn hl h).mono ?_
 rintro e w1 ⟨⟨r, rfl, hr⟩, k1⟩
 replace hr := Lib.hid hr
 go_wp2
 go_ret
 exact ⟨⟨_, rfl, by rw [← hr.out]; simp⟩, k1⟩
end Go.Proofs.YtmelaiefbpdifaaGreatDoor
/- fit, refusal. -/
namespace Go.Proofs.YtmelaiefbpdifaaGreatDoor
open Go.RowKit
set_option maxRecDepth 100000 in
set_option maxHeartbeats 2000000 in
theorem fit_any (w : World) (lp p n : Nat) (f : Bool) (F : List Nat) (s : St) (A : Option Addr) (c : Nat) (l : List Bk) (h : LogB w lp p n f) (hd : Dev w p F s) (hb : Blks w A l) (hl : l.length ≤ 1048576) (hc : l.length ≤ c) :
  Calls Tryz.prog 142 #[.pointer (some ⟨lp, 0, none⟩), .slice A l.length c] w fun e w' => Says (∀ i, i < l.length → goodAt l ((s.firm.length : Int) - 41) i) e ∧ Only [] w w' := by
 have hhas := fun W (k : Only [] w W) x => lhas_any W lp p n f F s x (Blk.kept h k (by simp)) (hd.kept k (by simp))
 have hdef : ∀ x, hasHome s.firm.length x = decide (0 ≤ x ∧ x < (s.firm.length : Int) - 41) := fun x => rfl
 simp only [hdef] at hhas
 have hfew := hd.fine.few
 generalize (s.firm.length : Int) - 41 = N at *
 replace hhas := Lib.hid hhas
 clear h hd hdef hfew
 go_enter Tryz.func142, Tryz.ntmps142
 go_wp2_with fail
 go_loopw [10] (fun i wr => ∃ k : Nat, k ≤ l.length ∧ i = .int .i64 k ∧ Hid (∀ j, j < k → goodAt l N j) ∧ Only [] w wr) (fun i _ => l.length - (intOf i).toNat)
 case atStart => exact ⟨0, Nat.zero_le _, rfl, fun j hj => by omega, Only.refl _ _⟩
 case round =>
  obtain ⟨k, hk, rfl, hgood, honly⟩ := hrel
  by_cases hlt : k < l.length
  ·obtain ⟨g, o, rfl, hg, hat⟩ := hb.get hlt
   have c0 := honly.cell (hat k hlt).1 (by simp)
   have c1 := honly.cell (hat k hlt).2 (by simp)
   have hx : l[k]? = some l[k] := List.getElem?_eq_getElem hlt
   have hgx : goodAt l N k ↔ (0 ≤ l[k].at_ ∧ l[k].at_ < N ∧ l[k].data.length ≤ 248 ∧ ¬ Among l k l[k].at_) := by
    constructor
    ·intro h
     obtain ⟨h1, h2, h3, h4⟩ := h _ hx
     exact ⟨h1, h2, h3, fun ⟨j, y, hj, hy, he⟩ => h4 j y hj hy he⟩
    ·intro ⟨h1, h2, h3, h4⟩ z hz
     rw [hx] at hz
     injection hz with hz
     subst hz
     exact ⟨h1, h2, h3, fun j y hj hy he => h4 ⟨j, y, hj, hy, he⟩⟩
   have hsz : (strOf l[k].data).size = l[k].data.length := strOf_size _
   generalize l[k] = x at *
   obtain ⟨at_, data⟩ := x
   simp only at c0 c1 hgx hsz
   generalize strOf data = bs at *
   replace hgx := Lib.hid hgx
   have hnot : Hid (¬ goodAt l N k → ¬ ∀ i, i < l.length → goodAt l N i) := fun h h' => h (h' k hlt)
   have kq : Only [] wr (wr.alloc (.cells #[.int .i64 at_, .string bs] 184)) := (Only.refl [] wr).alloc _
   have bq : Blk (wr.alloc (.cells #[.int .i64 at_, .string bs] 184)) wr.heap.size 184 #[.int .i64 at_, .string bs] := Blk.new _ _ _
   obtain ⟨q, hq⟩ : ∃ q, q = wr.heap.size := ⟨_, rfl⟩
   rw [← hq] at bq
   go_wp2_with fail
   simp only [← hq]
   generalize wr.alloc (.cells #[.int .i64 at_, .string bs] 184) = W at *
   have q0 := bq.cell 0
   have q1 := bq.cell 1
   simp only [List.getElem?_toArray, List.getElem?_cons_zero, List.getElem?_cons_succ] at q0 q1
   have kW := honly.trans kq
   replace hq := Lib.hid hq
   have hhasW := hhas.out W kW at_
   clear c0 c1 hx
   by_cases t1 : 0 ≤ at_ ∧ at_ < N
   ·have d1 : decide (0 ≤ at_ ∧ at_ < N) = true := by simp [t1]
    rw [d1] at hhasW
    by_cases t2 : data.length ≤ 248
    ·have t2' : ¬ (248 : Int) < (bs.size : Int) := by omega
     have hcont := contains_any W g o c k l at_ q (fun i hi => ⟨kW.cell (hat i hi).1 (by simp), kW.cell (hat i hi).2 (by simp)⟩) (by omega) hl q0
     replace hcont := Lib.hid hcont
     replace hhasW := Lib.hid hhasW
     replace hsz := Lib.hid hsz
     replace t1 := Lib.hid t1
     have hkc : (k : Int) ≤ (c : Int) := by omega
     clear bq d1
     refine hhasW.out.mono ?_
     rintro e w2 ⟨rfl, rfl⟩
     go_wp2_with fail
     refine hcont.out.mono ?_
     rintro e w3 ⟨⟨r, rfl, hr⟩, k3⟩
     have kend := kW.trans k3
     cases r with
     | true =>
      have hno : ¬ ∀ i, i < l.length → goodAt l N i := hnot.out (fun h => (hgx.out.1 h).2.2.2 (hr.1 rfl))
      replace hno := Lib.hid hno
      clear hr k3 hgx hnot hgood hcont
      go_wp2
      go_ret
      exact ⟨Says.no hno.out, kend⟩
     | false =>
      have hyes : goodAt l N k := hgx.out.2 ⟨t1.out.1, t1.out.2, t2, fun h => by have := hr.2 h; cases this⟩
      have hgood2 : Hid (∀ j, j < k + 1 → goodAt l N j) := fun j hj => by
       by_cases hjk : j = k
       ·subst hjk; exact hyes
       ·exact hgood.out j (by omega)
      clear hr k3 hgx hnot hgood hyes hcont
      go_wp2
      go_roundw
      case rel => exact ⟨k + 1, by omega, by go_num, hgood2, kend⟩
      case measure => simp [intOf]; omega
    ·have t2' : (248 : Int) < (bs.size : Int) := by omega
     have hno : ¬ ∀ i, i < l.length → goodAt l N i := hnot.out (fun h => t2 (hgx.out.1 h).2.2.1)
     replace hno := Lib.hid hno
     replace hhasW := Lib.hid hhasW
     clear hgx hnot hgood
     refine hhasW.out.mono ?_
     rintro e w2 ⟨rfl, rfl⟩
     go_wp2
     go_ret
     exact ⟨Says.no hno.out, kW⟩
   ·have d1 : decide (0 ≤ at_ ∧ at_ < N) = false := decide_eq_false t1
    rw [d1] at hhasW
    have hno : ¬ ∀ i, i < l.length → goodAt l N i := hnot.out (fun h => t1 ⟨(hgx.out.1 h).1, (hgx.out.1 h).2.1⟩)
    replace hno := Lib.hid hno
    replace hhasW := Lib.hid hhasW
    replace t1 := Lib.hid t1
    clear hgx hnot hgood
    refine hhasW.out.mono ?_
    rintro e w2 ⟨rfl, rfl⟩
    go_wp2
    go_ret
    exact ⟨Says.no hno.out, kW⟩
  ·have hyes : Hid (∀ i, i < l.length → goodAt l N i) := fun i hi => hgood.out i (by omega)
   have hge : (l.length : Int) ≤ k := by omega
   clear hgood
   go_wp2
   go_ret
   exact ⟨Says.yes hyes.out, honly⟩
def Refusal (size : Int) (f : Bool) (n : Nat) (l : List Bk) (x : Int) : Prop :=
 (¬ RightL l size ∧ x = 1) ∨ (RightL l size ∧ f = true ∧ x = 5) ∨ (RightL l size ∧ f = false ∧ n = 4294967295 ∧ x = 16) ∨ (RightL l size ∧ f = false ∧ n ≠ 4294967295 ∧ x = 0)
set_option maxRecDepth 100000 in
set_option maxHeartbeats 1000000 in
theorem refusal_any (w : World) (lp p n : Nat) (f : Bool) (F : List Nat) (s : St) (A : Option Addr) (c : Nat) (l : List Bk) (h : LogB w lp p n f) (hd : Dev w p F s) (hb : Blks w A l) (hl : l.length ≤ 9223372036854775807) (hc : l.length ≤ c) :
  Calls Tryz.prog 87 #[.pointer (some ⟨lp, 0, none⟩), .slice A l.length c] w fun e w' => (∃ x, e = .returned (.int .i64 x) ∧ Refusal ((s.firm.length : Int) - 41) f n l x) ∧ Only [] w w' := by
 by_cases h0 : l.length = 0
 ·have hno : Hid (Refusal ((s.firm.length : Int) - 41) f n l 1) := .inl ⟨fun h => by have := h.1; omega, rfl⟩
  have h0' : (l.length : Int) = 0 := by omega
  clear h hd hb
  go_enter Tryz.func87, Tryz.ntmps87
  go_wp2
  go_ret
  exact ⟨⟨1, rfl, hno.out⟩, Only.refl _ _⟩
 have h0' : ((l.length : Int) == 0) = false := beq_eq_false_iff_ne.2 (by omega)
 by_cases h1 : 40 < l.length
 ·have hno : Hid (Refusal ((s.firm.length : Int) - 41) f n l 1) := .inl ⟨fun h => by have := h.2.1; omega, rfl⟩
  have h1' : (40 : Int) < (l.length : Int) := by omega
  clear h hd hb h0
  go_enter Tryz.func87, Tryz.ntmps87
  go_wp2
  go_ret
  exact ⟨⟨1, rfl, hno.out⟩, Only.refl _ _⟩
 have h1' : ¬ (40 : Int) < (l.length : Int) := by omega
 have hfit := fit_any w lp p n f F s A c l h hd hb (by omega) hc
 have hright : RightL l ((s.firm.length : Int) - 41) ↔ ∀ i, i < l.length → goodAt l ((s.firm.length : Int) - 41) i := ⟨fun h => h.2.2, fun h => ⟨by omega, by omega, h⟩⟩
 rw [← hright] at hfit
 obtain ⟨_, c1, c2⟩ := h.cells
 generalize (s.firm.length : Int) - 41 = N at *
 replace hright := Lib.hid hright
 obtain ⟨z, hz⟩ : ∃ z : Int, z = (n : Int) := ⟨_, rfl⟩
 rw [← hz] at c1
 clear h hd hb h0 h1
 replace hfit := Lib.hid hfit
 replace hz := Lib.hid hz
 go_enter Tryz.func87, Tryz.ntmps87
 go_wp2_with fail
 refine hfit.out.mono ?_
 rintro e w1 ⟨⟨r, rfl, hr⟩, k1⟩
 have d1 := k1.cell c1 (by simp)
 have d2 := k1.cell c2 (by simp)
 clear c1 c2
 cases r with
 | false =>
  have hno : Hid (Refusal N f n l 1) := .inl ⟨fun h => Bool.noConfusion (hr.2 h), rfl⟩
  clear hr
  go_wp2
  go_ret
  exact ⟨⟨1, rfl, hno.out⟩, k1⟩
 | true =>
  have hyes : Hid (RightL l N) := hr.1 rfl
  clear hr
  cases hf : f with
  | true =>
   rw [hf] at d2
   have hno : Hid (Refusal N f n l 5) := .inr (.inl ⟨hyes.out, hf, rfl⟩)
   go_wp2
   go_ret
   exact ⟨⟨5, rfl, hno.out⟩, k1⟩
  | false =>
   rw [hf] at d2
   by_cases hm : z = 4294967295
   ·have hno : Hid (Refusal N f n l 16) := .inr (.inr (.inl ⟨hyes.out, hf, by have := hz.out; omega, rfl⟩))
    rw [hm] at d1
    clear hm
    go_wp2
    go_ret
    exact ⟨⟨16, rfl, hno.out⟩, k1⟩
   ·have hno : Hid (Refusal N f n l 0) := .inr (.inr (.inr ⟨hyes.out, hf, by have := hz.out; omega, rfl⟩))
    have hm' : (z == 4294967295) = false := by simpa using hm
    clear hm
    go_wp2
    go_ret
    exact ⟨⟨0, rfl, hno.out⟩, k1⟩
end Go.Proofs.YtmelaiefbpdifaaGreatDoor
/- Commit. -/
namespace Go.Proofs.YtmelaiefbpdifaaGreatDoor
open Go.RowKit
def commitW (s : St) (n : Nat) (l : List Bk) : Int × St :=
 if (settleW s (copiesOf (homesOf (n + 1) l))).1 ≠ 0 then settleW s (copiesOf (homesOf (n + 1) l)) else
 if (settleW (settleW s (copiesOf (homesOf (n + 1) l))).2 [⟨0, markL (n + 1) l.length⟩]).1 ≠ 0 then settleW (settleW s (copiesOf (homesOf (n + 1) l))).2 [⟨0, markL (n + 1) l.length⟩] else
 settleW (settleW (settleW s (copiesOf (homesOf (n + 1) l))).2 [⟨0, markL (n + 1) l.length⟩]).2 (homesOf (n + 1) l)
section
variable {s s1 s2 : St} {n : Nat} {l : List Bk} {x : Int}
theorem commitW_1 (h1 : settleW s (copiesOf (homesOf (n + 1) l)) = (x, s1)) (h : x ≠ 0) : commitW s n l = (x, s1) := by
 unfold commitW
 rw [h1, if_pos h]
theorem commitW_2 (h1 : settleW s (copiesOf (homesOf (n + 1) l)) = (0, s1)) (h2 : settleW s1 [⟨0, markL (n + 1) l.length⟩] = (x, s2)) (h : x ≠ 0) : commitW s n l = (x, s2) := by
 unfold commitW
 rw [h1]
 simp only [ne_eq, not_true_eq_false, if_false, h2]
 rw [if_pos h]
theorem commitW_3 (h1 : settleW s (copiesOf (homesOf (n + 1) l)) = (0, s1)) (h2 : settleW s1 [⟨0, markL (n + 1) l.length⟩] = (0, s2)) : commitW s n l = settleW s2 (homesOf (n + 1) l) := by
 unfold commitW
 rw [h1]
 simp only [ne_eq, not_true_eq_false, if_false, h2]
end
theorem markL_length (n k : Nat) : (markL n k).length = 256 := fillL_length _ (by simp [lcom, be4_length])
theorem written_firm (s : St) (k : Int) (b : List UInt8) : (written s k b).firm = s.firm := by
 unfold written
 split
 ·rfl
 ·split <;> simp [burnt_firm]
theorem barred_firm_len (s : St) : (barred s).firm.length = s.firm.length := by
 unfold barred
 split
 ·rw [burnt_firm]
 ·simp [settledAll, settle_length, burnt_firm]
theorem settleW_firm_len : ∀ (l : List Bk) (s : St), (settleW s l).2.firm.length = s.firm.length
 | [], s => barred_firm_len s
 | x :: r, s => by
  rw [settleW]
  split
  ·rw [settleW_firm_len r, written_firm]
  ·rw [written_firm]
theorem barred_late (s : St) : (barred s).late.length ≤ s.late.length := by
 unfold barred
 split
 ·rw [burnt_late]; omega
 ·simp [settledAll]
theorem settleW_late : ∀ (l : List Bk) (s : St), (settleW s l).2.late.length ≤ s.late.length + l.length
 | [], s => by have := barred_late s; simpa [settleW] using this
 | x :: r, s => by
  have h1 := written_late s x.at_ x.data
  rw [settleW]
  split
  ·have := settleW_late r (written s x.at_ x.data)
   simp only [List.length_cons]
   omega
  ·simp only [List.length_cons]
   omega
theorem settleW_err : ∀ (l : List Bk) (s : St), (∀ x ∈ l, hasBlock s.firm.length x.at_ = true ∧ x.data.length = 256) → (settleW s l).1 = 0 ∨ (settleW s l).1 = 5
 | [], s, _ => by
  simp only [settleW, barErr]
  split
  ·exact .inr rfl
  ·exact .inl rfl
 | x :: r, s, h => by
  have hx := h x (by simp)
  have he : writeErr s x.at_ x.data = 0 ∨ writeErr s x.at_ x.data = 5 := by
   rw [writeErr, hx.1, if_neg (by simp [hx.2])]
   split
   ·exact .inr rfl
   ·exact .inl rfl
  rw [settleW]
  split
  ·exact settleW_err r _ (fun y hy => by rw [written_firm]; exact h y (by simp [hy]))
  ·rename_i h0
   exact .inr (he.resolve_left h0)
theorem copies_there {n N : Nat} {l : List Bk} (hl : l.length ≤ 40) (hN : 42 ≤ N) (hd : ∀ x ∈ l, x.data.length ≤ 248) : ∀ x ∈ copiesOf (homesOf n l), hasBlock N x.at_ = true ∧ x.data.length = 256 := by
 intro x hx
 simp only [copiesOf, List.mem_mapIdx] at hx
 obtain ⟨i, hi, rfl⟩ := hx
 rw [homesOf_length] at hi
 refine ⟨by simp only [hasBlock, decide_eq_true_eq]; omega, ?_⟩
 simp only [homesOf, List.getElem_map]
 exact homeL_length n _ (hd _ (List.getElem_mem hi))
theorem homes_there {n N : Nat} {l : List Bk} (hd : ∀ x ∈ l, (0 ≤ x.at_ ∧ x.at_ < (N : Int) - 41) ∧ x.data.length ≤ 248) : ∀ x ∈ homesOf n l, hasBlock N x.at_ = true ∧ x.data.length = 256 := by
 intro x hx
 simp only [homesOf, List.mem_map] at hx
 obtain ⟨y, hy, rfl⟩ := hx
 obtain ⟨h1, h2⟩ := hd y hy
 exact ⟨by simp only [hasBlock, decide_eq_true_eq]; omega, homeL_length n y h2⟩
theorem right_all {l : List Bk} {N : Nat} (h : RightL l ((N : Int) - 41)) : ∀ x ∈ l, (0 ≤ x.at_ ∧ x.at_ < (N : Int) - 41) ∧ x.data.length ≤ 248 := by
 intro x hx
 obtain ⟨i, hi, rfl⟩ := List.getElem_of_mem hx
 obtain ⟨h1, h2, h3, _⟩ := h.2.2 i hi _ (List.getElem?_eq_getElem hi)
 exact ⟨⟨h1, h2⟩, h3⟩
theorem right_size {l : List Bk} {N : Nat} (h : RightL l ((N : Int) - 41)) : 42 ≤ N := by
 have h1 := h.1
 have := right_all h (l[0]'(by omega)) (List.getElem_mem _)
 omega
def CommitsTo (s : St) (n : Nat) (f : Bool) (l : List Bk) (x : Int) (s' : St) (n' : Nat) (f' : Bool) : Prop :=
 (x ≠ 0 ∧ Refusal ((s.firm.length : Int) - 41) f n l x ∧ s' = s ∧ n' = n ∧ f' = f) ∨
 (Refusal ((s.firm.length : Int) - 41) f n l 0 ∧ x = (commitW s n l).1 ∧ s' = (commitW s n l).2 ∧ ((x = 0 ∧ n' = n + 1 ∧ f' = false) ∨ (x = 5 ∧ n' = n ∧ f' = true)))
def Acted (w w' : World) (lp p : Nat) (F : List Nat) (s : St) (n : Nat) (f : Bool) : Prop :=
 ∃ F', Dev w' p F' s ∧ LogB w' lp p n f ∧ Only (lp :: F) w w' ∧ ∀ j ∈ F', (j ∈ F ∨ w.heap.size ≤ j) ∧ j < w'.heap.size
theorem acted_fail {w w0 w' : World} {lp p n : Nat} {F : List Nat} {s : St} (k : Only [] w w0) (hd : Did w0 w' p F s) (hlog : LogB w0 lp p n false) (hlp : lp ∉ F) (hlpw : lp < w.heap.size) :
  Acted w (w'.setCell ⟨lp, 2, none⟩ (.bool true)) lp p F s n true := by
 obtain ⟨F1, h1, h2, h3⟩ := hd
 obtain ⟨F2, k1, k2, k3⟩ := h1.trim
 have hl1 : LogB w' lp p n false := Blk.kept hlog h2 hlp
 have hlF : lp ∉ F2 := fun hm => by
  rcases h3.out lp (k2 _ hm) with h | h
  ·exact hlp h
  ·have := k.size; omega
 have ks : Only [lp] w' (w'.setCell ⟨lp, 2, none⟩ (.bool true)) := Only.set w' [lp] (by simp) _
 refine ⟨F2, k1.kept ks (by intro i hi; simp; rintro rfl; exact hlF hi), ?_, ?_, fun j hj => ⟨?_, by have := k3 j hj; simpa [World.setCell] using this⟩⟩
 ·have := Blk.set hl1 2 (.bool true)
  simpa [LogB] using this
 ·exact ((k.more (T := lp :: F) (by simp)).then h2 (fun i hi => .inl (by simp [hi]))).then ks (by simp)
 ·rcases h3.out j (k2 j hj) with h | h
  ·exact .inl h
  ·have := k.size; exact .inr (by omega)
theorem acted_ok {w w0 w' : World} {lp p n : Nat} {x : Int} {F : List Nat} {s : St} (k : Only [] w w0) (hd : Did w0 w' p F s) (hlog : LogB w0 lp p n false) (hlp : lp ∉ F) (hlpw : lp < w.heap.size) (hx : x = ((n + 1 : Nat) : Int)) :
  Acted w (w'.setCell ⟨lp, 1, none⟩ (.int .u32 x)) lp p F s (n + 1) false := by
 obtain ⟨F1, h1, h2, h3⟩ := hd
 obtain ⟨F2, k1, k2, k3⟩ := h1.trim
 have hl1 : LogB w' lp p n false := Blk.kept hlog h2 hlp
 have hlF : lp ∉ F2 := fun hm => by
  rcases h3.out lp (k2 _ hm) with h | h
  ·exact hlp h
  ·have := k.size; omega
 have ks : Only [lp] w' (w'.setCell ⟨lp, 1, none⟩ (.int .u32 x)) := Only.set w' [lp] (by simp) _
 refine ⟨F2, k1.kept ks (by intro i hi; simp; rintro rfl; exact hlF hi), ?_, ?_, fun j hj => ⟨?_, by have := k3 j hj; simpa [World.setCell] using this⟩⟩
 ·have := Blk.set hl1 1 (.int .u32 x)
  rw [hx] at this
  simpa [LogB, hx] using this
 ·exact ((k.more (T := lp :: F) (by simp)).then h2 (fun i hi => .inl (by simp [hi]))).then ks (by simp)
 ·rcases h3.out j (k2 j hj) with h | h
  ·exact .inl h
  ·have := k.size; exact .inr (by omega)
theorem acted_same {w w' : World} {lp p n : Nat} {f : Bool} {F : List Nat} {s : St} (hd : Dev w p F s) (hlog : LogB w lp p n f) (hF : ∀ i ∈ F, i < w.heap.size) (k : Only [] w w') : Acted w w' lp p F s n f :=
 ⟨F, hd.kept k (by simp), Blk.kept hlog k (by simp), k.more (by simp), fun j hj => ⟨.inl hj, Nat.lt_of_lt_of_le (hF j hj) k.size⟩⟩
theorem Acted.mono {w w' : World} {lp p n : Nat} {f : Bool} {F G : List Nat} {s : St} (h : Acted w w' lp p F s n f) (hG : ∀ i ∈ F, i ∈ G) : Acted w w' lp p G s n f := by
 obtain ⟨F', h1, h2, h3, h4⟩ := h
 exact ⟨F', h1, h2, h3.more (fun i hi => .inl (by rcases List.mem_cons.1 hi with rfl | hi; simp; simp [hG i hi])), fun j hj => ⟨(h4 j hj).1.imp (hG j) id, (h4 j hj).2⟩⟩
theorem Did.trans' {w w1 w2 : World} {p : Nat} {F F1 : List Nat} {t : St} (h : Only F w w1) (hF1 : Hid (∀ k ∈ F1, k ∈ F ∨ w.heap.size ≤ k)) (k : Did w1 w2 p F1 t) : Did w w2 p F t := by
 obtain ⟨F2, h1, h2, h3⟩ := k
 refine ⟨F2, h1, h.then h2 (fun i hi => hF1.out i hi), fun j hj => ?_⟩
 rcases h3.out j hj with h' | h'
 ·exact hF1.out j h'
 ·exact .inr (Nat.le_trans h.size h')
set_option maxRecDepth 100000 in
set_option maxHeartbeats 4000000 in
theorem commit_any (w : World) (lp p n : Nat) (f : Bool) (F : List Nat) (s : St) (A : Option Addr) (c : Nat) (l : List Bk) (hn : n < 4294967296) (h : LogB w lp p n f) (hd : Dev w p F s) (hlp : lp ∉ F) (hb : Blks w A l) (hl : l.length ≤ 9223372036854775807) (hc : l.length ≤ c) (hlate : s.late.length + 200 ≤ 1048576) :
  Calls Tryz.prog 41 #[.pointer (some ⟨lp, 0, none⟩), .slice A l.length c] w fun e w' => ∃ x s' n' f', e = .returned (.int .i64 x) ∧ CommitsTo s n f l x s' n' f' ∧ Acted w w' lp p F s' n' f' := by
 obtain ⟨F0, hd0, hsub, hF0⟩ := hd.trim
 refine Calls.mono (R := fun e w' => ∃ x s' n' f', e = .returned (.int .i64 x) ∧ CommitsTo s n f l x s' n' f' ∧ Acted w w' lp p F0 s' n' f') ?_ (fun e w' ⟨x, s', n', f', h1, h2, h3⟩ => ⟨x, s', n', f', h1, h2, h3.mono hsub⟩)
 have hlp0 : lp ∉ F0 := fun hm => hlp (hsub _ hm)
 clear hd hlp hsub F
 rename List Nat => F
 rename Dev w p F s => hd
 have hlpw := Blk.lt h
 have hpre := fun W (k : Only [] w W) => refusal_any W lp p n f F s A c l (Blk.kept h k (by simp)) (hd.kept k (by simp)) (hb.kept k (by simp)) hl hc
 obtain ⟨m, hm⟩ : ∃ m, m = w.heap.size := ⟨_, rfl⟩
 have km : Only [] w (w.alloc (.cells #[.int .u32 0, .int .u32 0] 153)) := (Only.refl [] w).alloc _
 have bm : Blk (w.alloc (.cells #[.int .u32 0, .int .u32 0] 153)) m 153 #[.int .u32 0, .int .u32 0] := by rw [hm]; exact Blk.new w _ _
 obtain ⟨z, hz⟩ : ∃ z : Int, z = (n : Int) := ⟨_, rfl⟩
 replace hn := Lib.hid hn
 replace hlate := Lib.hid hlate
 replace hF0 := Lib.hid hF0
 replace hpre := Lib.hid hpre
 replace hz := Lib.hid hz
 go_enter Tryz.func41, Tryz.ntmps41
 go_wp2_with fail
 refine wp_scope_forth 0 rfl ?_
 go_wp2_with fail
 simp only [← hm]
 generalize w.alloc (.cells #[.int .u32 0, .int .u32 0] 153) = W at *
 have hmw : w.heap.size ≤ m := by omega
 replace hm := Lib.hid hm
 refine (hpre.out W km).mono ?_
 rintro e w1 ⟨⟨x, rfl, hx⟩, k1⟩
 have kw1 := km.trans k1
 by_cases hx0 : x = 0
 ·subst hx0
  have hx' := hx
  simp only [Refusal] at hx'
  have hok : RightL l ((s.firm.length : Int) - 41) ∧ f = false ∧ n ≠ 4294967295 := by
   rcases hx' with ⟨_, h⟩ | ⟨_, _, h⟩ | ⟨_, _, _, h⟩ | ⟨h1, h2, h3, _⟩
   ·omega
   ·omega
   ·omega
   ·exact ⟨h1, h2, h3⟩
  clear hx'
  obtain ⟨hright, hf, hnm⟩ := hok
  rw [hf] at h
  have hlog1 : LogB w1 lp p n false := Blk.kept h kw1 (by simp)
  obtain ⟨l0, l1, l2⟩ := hlog1.cells
  rw [← hz.out] at l1
  have hall := right_all hright
  have hN := right_size hright
  have hl40 : l.length ≤ 40 := hright.2.1
  have hl40' : (l.length : Int) ≤ 40 := by omega
  have bm1 := bm.kept k1 (by simp)
  have f0 := bm1.free 0
  have f1 := bm1.free 1
  have hz0 : 0 ≤ z := by have := hz.out; omega
  have hz1 : z < 4294967295 := by have := hz.out; have := hn.out; omega
  have hzz : IntKind.u32.wrap (z + 1) = z + 1 := by rw [IntKind.wrap_u32]; omega
  have b0 := bm1.cell 0
  have b1 := bm1.cell 1
  simp only [List.getElem?_toArray, List.getElem?_cons_zero, List.getElem?_cons_succ] at b0 b1
  replace hx := Lib.hid hx
  replace hall := Lib.hid hall
  replace hright := Lib.hid hright
  replace hN := Lib.hid hN
  replace hf := Lib.hid hf
  replace hnm := Lib.hid hnm
  replace hlog1 := Lib.hid hlog1
  replace hl := Lib.hid hl
  replace hl40 := Lib.hid hl40
  go_wp2_with fail
  have k2 : Only [m] w1 ((w1.setCell ⟨m, 0, none⟩ (.int .u32 (z + 1))).setCell ⟨m, 1, none⟩ (.int .u32 (l.length : Int))) := ((Only.refl [m] w1).setCell (.inl (by simp)) _).setCell (.inl (by simp)) _
  have bm2 := Blk.set (Blk.set bm1 0 (.int .u32 (z + 1))) 1 (.int .u32 (l.length : Int))
  simp only [List.setIfInBounds_toArray, List.set_cons_zero, List.set_cons_succ] at bm2
  generalize (w1.setCell ⟨m, 0, none⟩ (.int .u32 (z + 1))).setCell ⟨m, 1, none⟩ (.int .u32 (l.length : Int)) = W2 at *
  have hlpm : lp ≠ m := by omega
  have kw2 : Only [] w W2 := kw1.then k2 (by simp; exact hmw)
  have hlog2 := Blk.kept hlog1.out k2 (by simp; exact hlpm)
  have hd2 := hd.kept kw2 (by simp)
  have hb2 := hb.kept kw2 (by simp)
  have hz2 : z + 1 = ((n + 1 : Nat) : Int) := by have := hz.out; omega
  have hn2 : n + 1 < 4294967296 := by have := hn.out; have := hnm.out; omega
  have hch := changed_any W2 A c l (n + 1) hn2 hb2 (by have := hl40.out; omega) (fun y hy => by have := hall.out y hy; have := hd.fine.few; omega)
  rw [← hz2] at hch
  have hthere := homes_there (n := n + 1) hall.out
  have hcthere := copies_there (n := n + 1) hl40.out hN.out (fun y hy => (hall.out y hy).2)
  have hhl := homesOf_length (n + 1) l
  generalize hhs : homesOf (n + 1) l = hs at *
  have hcl := copiesOf_length hs
  replace hhs := Lib.hid hhs
  replace hthere := Lib.hid hthere
  replace hcthere := Lib.hid hcthere
  replace hz2 := Lib.hid hz2
  replace hn2 := Lib.hid hn2
  have hcl40 : (copiesOf hs).length ≤ 40 := by have := hl40.out; omega
  have hhl40 : hs.length ≤ 40 := by have := hl40.out; omega
  replace hhl := Lib.hid hhl
  replace hcl := Lib.hid hcl
  replace hcl40 := Lib.hid hcl40
  replace hhl40 := Lib.hid hhl40
  replace hd2 := Lib.hid hd2
  clear hb2 k1 k2 km bm bm1 f0 f1 b0 b1 l0 l1 l2 hlog1
  refine hch.mono ?_
  rintro e w3 ⟨v1, rfl, A1, c1, rfl, hbl1, k3, hnew1⟩
  have kw3 := kw2.trans k3
  have hlog3 := Blk.kept hlog2 k3 (by simp)
  have bm3 := bm2.kept k3 (by simp)
  have hd3 := hd.kept kw3 (by simp)
  have hA1 : ∀ a, A1 = some a → a.block ∉ F := fun a ha hm => by
   have := hnew1 a ha
   have := hF0.out _ hm
   have := kw2.size
   omega
  clear hch bm2 hd2
  go_wp2_with fail
  have kd : Only [] w3 w3.drew := (Only.refl [] w3).drew
  have l0 := (LogB.cells hlog3).1
  refine wp_region_held_drew (S := fun w' => w'.cell? ⟨lp, 0, none⟩ = some (.pointer (some ⟨p, 0, none⟩))) (by kernel_rfl) (kd.cell l0 (by simp)) (fun hHeld => ?_)
  refine rwT 0 (.pointer (some ⟨lp, 0, none⟩)) hHeld ?_; simp only [rwA]
  refine rwT 1 (.pointer (some ⟨lp, 0, none⟩)) hHeld ?_; simp only [rwA]
  refine rwT 2 (.pointer (some ⟨lp, 0, none⟩)) hHeld ?_; simp only [rwA]
  refine rwT 3 (.pointer (some ⟨p, 0, none⟩)) hHeld ?_; simp only [rwA]
  refine rwT 4 (.slice A1 hs.length c1) hHeld ?_; simp only [rwA]
  refine held_step 5 rfl (by kernel_rfl) (fun K hK => ?_)
  go_simp
  go_at_call 89
  refine (copies_any _ A1 c1 hs (hbl1.kept kd (by simp)) (by have := hhl40.out; omega)).mono ?_
  rintro e w4 ⟨v2, rfl, A2, c2, rfl, hbl2, k4, hnew2⟩
  go_wp2_with fail
  refine hK.out _ _ (k4.cell (kd.cell l0 (by simp)) (by simp)) (fun hHeld => ?_)
  clear hK K
  have kw4 := (kw3.trans kd).trans k4
  have hA2 : ∀ a, A2 = some a → a.block ∉ F := fun a ha hm => by
   have h1 := hnew2 a ha
   have h2 := hF0.out _ hm
   have h3 := kw3.size
   have h4 := kd.size
   omega
  refine held_step 6 rfl (by kernel_rfl) (fun K hK => ?_)
  go_simp
  go_at_call 74
  refine (wsettle_any w4 p F s A2 c2 (copiesOf hs) (hd.kept kw4 (by simp)) hbl2 hA2 (by have := hlate.out; have := hcl40.out; omega)).mono ?_
  rintro e w5 ⟨rfl, hdid5⟩
  have hlog4 := (Blk.kept (Blk.kept hlog3 kd (by simp)) k4 (by simp))
  have bm4 := ((bm3.kept kd (by simp)).kept k4 (by simp))
  have hbl4 := (hbl1.kept kd (by simp)).kept k4 (by simp)
  have hmF : m ∉ F := fun hm => by have := hF0.out _ hm; omega
  have l5 := hdid5.cell (LogB.cells hlog4).1 hlp0
  go_wp2_with fail
  refine hK.out _ _ l5 (fun hHeld => ?_)
  clear hK K
  refine rwT 7 (.int .i64 (settleW s (copiesOf hs)).1) hHeld ?_; simp only [rwA]
  refine wpAnyH_done (by kernel_rfl) ?_ _
  clear hHeld
  clear hbl2 k4 kd hnew2 hA2 l0 l5
  have herr1 := settleW_err (copiesOf hs) s hcthere.out
  have hlate1 := settleW_late (copiesOf hs) s
  have hfl1 := settleW_firm_len (copiesOf hs) s
  generalize hr1 : settleW s (copiesOf hs) = r1 at *
  obtain ⟨x1, s1⟩ := r1
  simp only at herr1 hlate1 hfl1 hdid5 ⊢
  replace hr1 := Lib.hid hr1
  by_cases hx1 : x1 = 0
  ·subst hx1
   have hblk : ∀ W, Calls Tryz.prog 90 #[.agg #[.int .u32 (z + 1), .int .u32 (l.length : Int)]] W fun e w' => e = .returned (.string (strOf (markL (n + 1) l.length))) ∧ Only [] W w' := fun W => by
    have := block_any W (n + 1) l.length hn2.out (by have := hl40.out; omega)
    rwa [← hz2.out] at this
   obtain ⟨F5a, hd5a, k5, f5a⟩ := id hdid5
   obtain ⟨F5, hd5, hsub5, hlt5⟩ := hd5a.trim
   have f5 : Hid (∀ i ∈ F5, i ∈ F ∨ w4.heap.size ≤ i) := fun i hi => f5a.out i (hsub5 i hi)
   clear hd5a f5a hsub5
   have hlog5 : LogB w5 lp p n false := Blk.kept hlog4 k5 hlp0
   have bm5 := bm4.kept k5 hmF
   obtain ⟨g1, o1, rfl, hg1, _⟩ := hbl4.get (i := 0) (by have := hhl.out; have := hright.out.1; omega)
   have hF5 : ∀ i ∈ F5, i ∈ F ∨ w4.heap.size ≤ i := f5.out
   have hmF5 : m ∉ F5 := fun h => by
    rcases hF5 m h with h | h
    ·exact hmF h
    ·have := bm4.lt; omega
   have hlpF5 : lp ∉ F5 := fun h => by
    rcases hF5 lp h with h | h
    ·exact hlp0 h
    ·have := Blk.lt hlog4; omega
   have hg1F : g1 ∉ F := hA1 _ rfl
   have hg1F5 : g1 ∉ F5 := fun h => by
    rcases hF5 g1 h with h | h
    ·exact hg1F h
    ·omega
   have hbl5 := hbl4.kept k5 (fun a ha => by injection ha with ha; subst ha; exact hg1F)
   have hlate5 : s1.late.length + 2 ≤ 1048576 := by have := hlate.out; have := hcl40.out; omega
   have l0 := (LogB.cells hlog5).1
   have m0 := bm5.cell 0
   have m1 := bm5.cell 1
   simp only [List.getElem?_toArray, List.getElem?_cons_zero, List.getElem?_cons_succ] at m0 m1
   have hml := markL_length (n + 1) l.length
   generalize hM : markL (n + 1) l.length = ML at *
   replace hblk := Lib.hid hblk
   replace hM := Lib.hid hM
   clear hbl1 hbl4 bm3 bm4 hlog3 k3 hd3 hnew1
   go_wp2_with fail
   have kd : Only [] w5 w5.drew := (Only.refl [] w5).drew
   refine wp_region_held_drew (S := fun w' => w'.cell? ⟨lp, 0, none⟩ = some (.pointer (some ⟨p, 0, none⟩)) ∧ w'.cell? ⟨m, 0, none⟩ = some (.int .u32 (z + 1)) ∧ w'.cell? ⟨m, 1, none⟩ = some (.int .u32 (l.length : Int))) (by kernel_rfl) ⟨kd.cell l0 (by simp), kd.cell m0 (by simp), kd.cell m1 (by simp)⟩ (fun hHeld => ?_)
   refine rwT 0 (.pointer (some ⟨lp, 0, none⟩)) hHeld ?_; simp only [rwA]
   refine rwT 1 (.pointer (some ⟨lp, 0, none⟩)) hHeld ?_; simp only [rwA]
   refine rwT 2 (.pointer (some ⟨lp, 0, none⟩)) hHeld ?_; simp only [rwA]
   refine rwT 3 (.pointer (some ⟨p, 0, none⟩)) hHeld ?_; simp only [rwA]
   refine rwT 4 (.agg #[.int .u32 (z + 1), .int .u32 (l.length : Int)]) hHeld ?_; simp only [rwA]
   refine held_step 5 rfl (by kernel_rfl) (fun K hK => ?_)
   go_simp
   go_at_call 90
   refine (hblk.out _).mono ?_
   rintro e w6 ⟨rfl, k6⟩
   go_wp2_with fail
   refine hK.out _ _ ⟨k6.cell (kd.cell l0 (by simp)) (by simp), k6.cell (kd.cell m0 (by simp)) (by simp), k6.cell (kd.cell m1 (by simp)) (by simp)⟩ (fun hHeld => ?_)
   clear hK K
   have k56 := kd.trans k6
   generalize hMs : strOf ML = M at *
   refine rwT 6 (.agg #[.int .i64 0, .string M]) hHeld ?_; simp only [rwA]
   refine held_step 7 rfl (by kernel_rfl) (fun K hK => ?_)
   go_simp
   have ka : Only [] w6 (w6.alloc (.cells #[.int .i64 0, .string M] 181)) := (Only.refl [] w6).alloc _
   have ba : Blk (w6.alloc (.cells #[.int .i64 0, .string M] 181)) w6.heap.size 181 #[.int .i64 0, .string M] := Blk.new _ _ _
   obtain ⟨g2, hg2⟩ : ∃ g, g = w6.heap.size := ⟨_, rfl⟩
   rw [← hg2] at ba
   generalize w6.alloc (.cells #[.int .i64 0, .string M] 181) = w7 at *
   have k57 := k56.trans ka
   refine hK.out _ _ ⟨k57.cell l0 (by simp), k57.cell m0 (by simp), k57.cell m1 (by simp)⟩ (fun hHeld => ?_)
   clear hK K
   have hblM : Blks w7 (some ⟨g2, 0, none⟩) [⟨0, ML⟩] := by
    refine ⟨.inr ⟨g2, 0, rfl, ba.lt, fun i hi => ?_⟩, fun y hy => ?_⟩
    ·have hi0 : i = 0 := by simpa using hi
     subst hi0
     have q0 := ba.cell 0
     have q1 := ba.cell 1
     simp only [List.getElem?_toArray, List.getElem?_cons_zero, List.getElem?_cons_succ] at q0 q1
     exact ⟨q0, by rw [List.getElem_cons_zero, hMs]; exact q1⟩
    ·simp only [List.mem_singleton] at hy
     subst hy
     exact ⟨⟨by simp only; omega, by simp only; omega⟩, by simp only; omega⟩
   have hg2F5 : g2 ∉ F5 := fun h => by
    have := hlt5 _ h
    have := k56.size
    omega
   rw [hg2] at hblM hg2F5
   refine held_step 8 rfl (by kernel_rfl) (fun K hK => ?_)
   go_simp
   go_at_call 74
   refine (wsettle_any w7 p F5 s1 (some ⟨w6.heap.size, 0, none⟩) 1 [⟨0, ML⟩] (hd5.kept k57 (by simp)) hblM (fun a ha => by injection ha with ha; subst ha; exact hg2F5) (by simp; omega)).mono ?_
   rintro e w8 ⟨rfl, hdid8⟩
   have hdid58 := hdid8.from k57
   obtain ⟨F8a, hd8a, k58, f8a⟩ := id hdid58
   obtain ⟨F8, hd8, hsub8, hlt8⟩ := hd8a.trim
   have f8 : Hid (∀ i ∈ F8, i ∈ F5 ∨ w5.heap.size ≤ i) := fun i hi => f8a.out i (hsub8 i hi)
   clear hd8a f8a hsub8
   have hdid48 := Did.trans' k5 f5 hdid58
   have hlog8 : LogB w8 lp p n false := Blk.kept hlog5 k58 hlpF5
   have bm8 := bm5.kept k58 hmF5
   have hbl8 := hbl5.kept k58 (fun a ha => by injection ha with ha; subst ha; exact hg1F5)
   have hlpF8 : lp ∉ F8 := fun h => by
    rcases f8.out lp h with h | h
    ·exact hlpF5 h
    ·have := Blk.lt hlog5; omega
   have hg1F8 : g1 ∉ F8 := fun h => by
    rcases f8.out g1 h with h | h
    ·exact hg1F5 h
    ·have := k5.size; omega
   go_wp2_with fail
   refine hK.out _ _ ⟨(LogB.cells hlog8).1, by simpa using bm8.cell 0, by simpa using bm8.cell 1⟩ (fun hHeld => ?_)
   clear hK K
   refine rwT 9 (.int .i64 (settleW s1 [⟨0, ML⟩]).1) hHeld ?_; simp only [rwA]
   refine wpAnyH_done (by kernel_rfl) ?_ _
   clear hHeld
   have hthere1 : ∀ y ∈ [(⟨0, ML⟩ : Bk)], hasBlock s1.firm.length y.at_ = true ∧ y.data.length = 256 := by
    intro y hy
    simp only [List.mem_singleton] at hy
    subst hy
    exact ⟨by simp only [hasBlock, decide_eq_true_eq]; have := hN.out; omega, hml⟩
   have herr2 := settleW_err _ s1 hthere1
   have hlate2 := settleW_late [⟨0, ML⟩] s1
   have hfl2 := settleW_firm_len [⟨0, ML⟩] s1
   generalize hr2 : settleW s1 [⟨0, ML⟩] = r2 at *
   obtain ⟨x2, s2⟩ := r2
   simp only at herr2 hlate2 hfl2 hd8 hdid48 hdid58 hdid8 ⊢
   replace hr2 := Lib.hid hr2
   clear hblM ba ka hdid8 hdid58 k6 k56 k57 kd hHeld
   by_cases hx2 : x2 = 0
   ·subst hx2
    have hcw' : commitW s n l = settleW s2 hs := by
     rw [commitW_3 (by rw [hhs.out]; exact hr1.out) (by rw [hM.out]; exact hr2.out), hhs.out]
    have l08 := (LogB.cells hlog8).1
    have hsetF := wsettle_any w8 p F8 s2 (some ⟨g1, o1, none⟩) c1 hs hd8 hbl8 (fun a ha => by injection ha with ha; subst ha; exact hg1F8) (by have := hhl40.out; have := hlate.out; have := hcl40.out; simp at hlate2; omega)
    have herr3 := settleW_err hs s2 (by rw [hfl2, hfl1]; exact hthere.out)
    generalize hr3 : settleW s2 hs = r3 at *
    obtain ⟨x3, s3⟩ := r3
    simp only at herr3 hsetF
    replace hsetF := Lib.hid hsetF
    go_wp2_with fail
    refine hsetF.out.mono ?_
    rintro e w9 ⟨rfl, hdid9⟩
    have hlog9 : LogB w9 lp p n false := by
     obtain ⟨_, _, kE, _⟩ := hdid9
     exact Blk.kept hlog8 kE hlpF8
    have bm9 : Blk w9 m 153 #[.int .u32 (z + 1), .int .u32 (l.length : Int)] := by
     obtain ⟨_, _, kE, _⟩ := hdid9
     refine bm8.kept kE (fun h => ?_)
     rcases f8.out m h with h | h
     ·exact hmF5 h
     ·have := bm5.lt; omega
    have hf8F : Hid (∀ i ∈ F8, i ∈ F ∨ w4.heap.size ≤ i) := fun i hi => by
     rcases f8.out i hi with h | h
     ·exact f5.out i h
     ·have := k5.size; exact .inr (by omega)
    have k48 : Only F w4 w8 := k5.then k58 (fun i hi => f5.out i hi)
    have hdid49 := Did.trans' k48 hf8F hdid9
    clear hdid9 hsetF hbl5 hbl8 hd5 hd8 hdid5
    by_cases hx3 : x3 = 0
    ·subst hx3
     have hlogE := hlog9
     have frE := Blk.free hlogE 1
     have lE := (LogB.cells hlogE).2.1
     have mE := bm9.cell 0
     simp only [List.getElem?_toArray, List.getElem?_cons_zero] at mE
     have hend := acted_ok kw4 hdid49 hlog4 hlp0 hlpw hz2.out
     have hcom : CommitsTo s n f l 0 s3 (n + 1) false := .inr ⟨hx.out, by rw [hcw'], by rw [hcw'], .inl ⟨rfl, rfl, rfl⟩⟩
     replace hcom := Lib.hid hcom
     replace hend := Lib.hid hend
     clear hdid49 hdid48 hlogE hcw' hlog4 hlog5 hlog8 hlog9 bm5 bm8 bm9
     go_wp2
     rw [Forth.ret]
     go_ret
     exact ⟨0, s3, n + 1, false, rfl, hcom.out, hend.out⟩
    ·obtain rfl : x3 = 5 := herr3.resolve_left hx3
     have hlogE : LogB w9 lp p n false := by
      obtain ⟨_, _, kE, _⟩ := hdid49
      exact Blk.kept hlog4 kE hlp0
     have frE := Blk.free hlogE 2
     have lE := (LogB.cells hlogE).2.2
     have hend := acted_fail kw4 hdid49 hlog4 hlp0 hlpw
     have hcom : CommitsTo s n f l 5 s3 n true := .inr ⟨hx.out, by rw [hcw'], by rw [hcw'], .inr ⟨rfl, rfl, rfl⟩⟩
     replace hcom := Lib.hid hcom
     replace hend := Lib.hid hend
     clear hdid49 hlogE hcw'
     go_wp2_with fail
     go_step3
     refine ⟨rfl, ?_⟩
     go_wp2
     rw [Exit.noGoto_ret]
     go_ret
     exact ⟨5, s3, n, true, rfl, hcom.out, hend.out⟩
   ·obtain rfl : x2 = 5 := herr2.resolve_left hx2
    have hcw' : commitW s n l = (5, s2) := commitW_2 (by rw [hhs.out]; exact hr1.out) (by rw [hM.out]; exact hr2.out) (by decide)
    have hlogE : LogB w8 lp p n false := by
     obtain ⟨_, _, kE, _⟩ := hdid48
     exact Blk.kept hlog4 kE hlp0
    have frE := Blk.free hlogE 2
    have lE := (LogB.cells hlogE).2.2
    have hend := acted_fail kw4 hdid48 hlog4 hlp0 hlpw
    have hcom : CommitsTo s n f l 5 s2 n true := .inr ⟨hx.out, by rw [hcw'], by rw [hcw'], .inr ⟨rfl, rfl, rfl⟩⟩
    replace hcom := Lib.hid hcom
    replace hend := Lib.hid hend
    clear hdid48 hlogE hcw'
    go_wp2_with fail
    go_step3
    refine ⟨rfl, ?_⟩
    go_wp2
    rw [Exit.noGoto_ret]
    go_ret
    exact ⟨5, s2, n, true, rfl, hcom.out, hend.out⟩
  ·obtain rfl : x1 = 5 := herr1.resolve_left hx1
   have hcw' : commitW s n l = (5, s1) := commitW_1 (by rw [hhs.out]; exact hr1.out) (by decide)
   have hlogE : LogB w5 lp p n false := by
    obtain ⟨_, _, kE, _⟩ := hdid5
    exact Blk.kept hlog4 kE hlp0
   have frE := Blk.free hlogE 2
   have lE := (LogB.cells hlogE).2.2
   have hend := acted_fail kw4 hdid5 hlog4 hlp0 hlpw
   have hcom : CommitsTo s n f l 5 s1 n true := .inr ⟨hx.out, by rw [hcw'], by rw [hcw'], .inr ⟨rfl, rfl, rfl⟩⟩
   replace hcom := Lib.hid hcom
   replace hend := Lib.hid hend
   clear hdid5 hlogE hcw'
   go_wp2_with fail
   go_step3
   refine ⟨rfl, ?_⟩
   go_wp2
   rw [Exit.noGoto_ret]
   go_ret
   exact ⟨5, s1, n, true, rfl, hcom.out, hend.out⟩
 ·have hcom : CommitsTo s n f l x s n f := .inl ⟨hx0, hx, rfl, rfl, rfl⟩
  have hend := acted_same hd h hF0.out kw1
  have hx5 : x = 5 → f = true := by
   intro h5
   rcases hx with ⟨_, h⟩ | ⟨_, h, _⟩ | ⟨_, _, _, h⟩ | ⟨_, _, _, h⟩
   ·omega
   ·exact h
   ·omega
   ·omega
  have hx0' : (x != 0) = true := by simpa using hx0
  replace hcom := Lib.hid hcom
  replace hx := Lib.hid hx
  by_cases h5 : x = 5
  ·have hf := hx5 h5
   subst h5
   have hlogE : LogB w1 lp p n f := Blk.kept h kw1 (by simp)
   have frE := Blk.free hlogE 2
   have lE := (LogB.cells hlogE).2.2
   have hend2 : Acted w (w1.setCell ⟨lp, 2, none⟩ (.bool true)) lp p F s n f := by
    rw [hf] at hlogE ⊢
    have ks : Only [lp] w1 (w1.setCell ⟨lp, 2, none⟩ (.bool true)) := Only.set w1 [lp] (by simp) _
    refine ⟨F, (hd.kept kw1 (by simp)).kept ks (by intro i hi; simp; rintro rfl; exact hlp0 hi), ?_, (kw1.more (by simp)).trans (ks.more (by simp)), fun j hj => ⟨.inl hj, ?_⟩⟩
    ·have := Blk.set hlogE 2 (.bool true)
     simpa [LogB] using this
    ·have := hF0.out j hj
     have := kw1.size
     simp [World.setCell]
     omega
   replace hend2 := Lib.hid hend2
   replace hx5 := Lib.hid hx5
   replace hf := Lib.hid hf
   clear hend hlogE
   go_wp2_with fail
   go_step3
   refine ⟨rfl, ?_⟩
   go_wp2
   rw [Exit.noGoto_ret]
   go_ret
   exact ⟨5, s, n, f, rfl, hcom.out, hend2.out⟩
  ·have h5' : (x == 5) = false := by simpa using h5
   replace hend := Lib.hid hend
   replace hx5 := Lib.hid hx5
   go_wp2_with fail
   go_step3
   refine ⟨rfl, ?_⟩
   go_wp2
   rw [Exit.noGoto_ret]
   go_ret
   exact ⟨x, s, n, f, rfl, hcom.out, hend.out⟩
end Go.Proofs.YtmelaiefbpdifaaGreatDoor
/- What opening and committing make of the blocks, as long as nothing dies. -/
namespace Go.Proofs.YtmelaiefbpdifaaGreatDoor
def Live (s : St) : Prop := s.dead = false ∧ s.fuse < 0
theorem Live.burns {s : St} (h : Live s) : burns s = true := by
 have h1 := h.1
 have h2 := h.2
 have : ¬ s.fuse = 0 := by omega
 simp [Go.Proofs.YtmelaiefbpdifaaGreatDoor.burns, h1, this]
theorem Live.burnt {s : St} (h : Live s) : Go.Proofs.YtmelaiefbpdifaaGreatDoor.burnt s = s := by
 have h2 := h.2
 unfold Go.Proofs.YtmelaiefbpdifaaGreatDoor.burnt
 rw [if_pos h.burns, if_neg (by omega)]
def There (N : Nat) (x : Bk) : Prop := hasBlock N x.at_ = true ∧ x.data.length = 256
theorem Live.written {s : St} (h : Live s) {x : Bk} (hx : There s.firm.length x) : writeErr s x.at_ x.data = 0 ∧ Go.Proofs.YtmelaiefbpdifaaGreatDoor.written s x.at_ x.data = { s with late := s.late ++ [(x.at_.toNat, x.data)] } := by
 have h1 : (hasBlock s.firm.length x.at_ && decide (x.data.length = 256)) = true := by rw [hx.1, hx.2]; rfl
 constructor
 ·rw [writeErr, h1, if_neg (by decide), if_neg (by rw [h.burns]; decide)]
 ·rw [Go.Proofs.YtmelaiefbpdifaaGreatDoor.written, h1, if_neg (by decide), if_neg (by rw [h.burns]; decide), h.burnt]
theorem blkB_written (s : St) (x : Bk) (h0 : 0 ≤ x.at_) (k : Nat) : blkB { s with late := s.late ++ [(x.at_.toNat, x.data)] } k = if x.at_ = (k : Int) then x.data else blkB s k := by
 unfold blkB
 simp only [nowOf_snoc]
 by_cases h : x.at_ = (k : Int)
 ·rw [if_pos h, if_pos (by omega)]
 ·rw [if_neg h, if_neg (by omega)]
theorem Live.barred {s : St} (h : Live s) : barErr s = 0 ∧ Live (Go.Proofs.YtmelaiefbpdifaaGreatDoor.barred s) ∧ (Go.Proofs.YtmelaiefbpdifaaGreatDoor.barred s).late = [] ∧ ∀ k, k < s.firm.length → blkB (Go.Proofs.YtmelaiefbpdifaaGreatDoor.barred s) k = blkB s k := by
 refine ⟨by rw [barErr, if_neg (by rw [h.burns]; decide)], ?_⟩
 rw [Go.Proofs.YtmelaiefbpdifaaGreatDoor.barred, if_neg (by rw [h.burns]; decide), h.burnt]
 refine ⟨⟨h.1, h.2⟩, rfl, fun k hk => ?_⟩
 unfold blkB
 simp only [settledAll, nowOf_nil]
 have := settle_all s.firm k _ (getD_get hk ([] : List UInt8)) s.late
 rw [List.getD_eq_getElem?_getD, this]
 rfl
def putL (v : Nat → List UInt8) : List Bk → Nat → List UInt8
 | [], k => v k
 | x :: r, k => putL (fun k => if x.at_ = (k : Int) then x.data else v k) r k
theorem putL_congr : ∀ (l : List Bk) (v u : Nat → List UInt8) (k : Nat), v k = u k → putL v l k = putL u l k
 | [], _, _, _, h => h
 | x :: r, v, u, k, h => by
  rw [putL, putL]
  refine putL_congr r _ _ k ?_
  simp only [h]
theorem putL_none : ∀ (l : List Bk) (v : Nat → List UInt8) (k : Nat), (∀ x ∈ l, x.at_ ≠ (k : Int)) → putL v l k = v k
 | [], _, _, _ => rfl
 | x :: r, v, k, h => by
  rw [putL, putL_none r _ k (fun y hy => h y (by simp [hy])), if_neg (h x (by simp))]
theorem putL_cases : ∀ (l : List Bk) (v : Nat → List UInt8) (k : Nat), (∃ x ∈ l, x.at_ = (k : Int) ∧ putL v l k = x.data) ∨ ((∀ x ∈ l, x.at_ ≠ (k : Int)) ∧ putL v l k = v k)
 | [], _, _ => .inr ⟨by simp, rfl⟩
 | x :: r, v, k => by
  rw [putL]
  rcases putL_cases r (fun k => if x.at_ = (k : Int) then x.data else v k) k with ⟨y, hy, h1, h2⟩ | ⟨h1, h2⟩
  ·exact .inl ⟨y, by simp [hy], h1, h2⟩
  ·by_cases hx : x.at_ = (k : Int)
   ·exact .inl ⟨x, by simp, hx, by rw [h2, if_pos hx]⟩
   ·refine .inr ⟨fun y hy => ?_, by rw [h2, if_neg hx]⟩
    rcases List.mem_cons.1 hy with rfl | hy
    ·exact hx
    ·exact h1 y hy
theorem settleW_live : ∀ (l : List Bk) (s : St), Live s → (∀ x ∈ l, There s.firm.length x) →
  (settleW s l).1 = 0 ∧ Live (settleW s l).2 ∧ (settleW s l).2.late = [] ∧ ∀ k, k < s.firm.length → blkB (settleW s l).2 k = putL (blkB s) l k
 | [], s, h, _ => by
  obtain ⟨h1, h2, h3, h4⟩ := h.barred
  exact ⟨h1, h2, h3, h4⟩
 | x :: r, s, h, hl => by
  have hx := hl x (by simp)
  obtain ⟨h1, h2⟩ := h.written hx
  have h0 : 0 ≤ x.at_ := by
   have := hx.1
   simp only [hasBlock, decide_eq_true_eq] at this
   exact this.1
  rw [settleW, if_pos h1, h2]
  have hlive : Live { s with late := s.late ++ [(x.at_.toNat, x.data)] } := ⟨h.1, h.2⟩
  obtain ⟨k1, k2, k3, k4⟩ := settleW_live r { s with late := s.late ++ [(x.at_.toNat, x.data)] } hlive (fun y hy => hl y (by simp [hy]))
  refine ⟨k1, k2, k3, fun k hk => ?_⟩
  rw [k4 k hk, putL]
  exact putL_congr r _ _ k (blkB_written s x h0 k)
theorem there_copies {n N : Nat} {l : List Bk} (h : RightL l ((N : Int) - 41)) : ∀ x ∈ copiesOf (homesOf n l), There N x :=
 copies_there h.2.1 (right_size h) (fun y hy => (right_all h y hy).2)
theorem there_homes {n N : Nat} {l : List Bk} (h : RightL l ((N : Int) - 41)) : ∀ x ∈ homesOf n l, There N x := homes_there (right_all h)
theorem there_mark {n k N : Nat} (hN : 42 ≤ N) : ∀ x ∈ [(⟨0, markL n k⟩ : Bk)], There N x := by
 intro x hx
 simp only [List.mem_singleton] at hx
 subst hx
 exact ⟨by simp only [hasBlock, decide_eq_true_eq]; omega, markL_length _ _⟩
theorem commitW_live {s : St} {n : Nat} {l : List Bk} (h : Live s) (hr : RightL l ((s.firm.length : Int) - 41)) :
  (commitW s n l).1 = 0 ∧ Live (commitW s n l).2 ∧ (commitW s n l).2.late = [] ∧ (commitW s n l).2.firm.length = s.firm.length ∧
   ∀ k, k < s.firm.length → blkB (commitW s n l).2 k = putL (putL (putL (blkB s) (copiesOf (homesOf (n + 1) l))) [⟨0, markL (n + 1) l.length⟩]) (homesOf (n + 1) l) k := by
 have hN := right_size hr
 obtain ⟨a1, a2, a3, a4⟩ := settleW_live (copiesOf (homesOf (n + 1) l)) s h (there_copies hr)
 have a5 := settleW_firm_len (copiesOf (homesOf (n + 1) l)) s
 generalize hq1 : settleW s (copiesOf (homesOf (n + 1) l)) = q1 at *
 obtain ⟨x1, s1⟩ := q1
 simp only at a1 a2 a3 a4 a5
 subst a1
 obtain ⟨b1, b2, b3, b4⟩ := settleW_live [⟨0, markL (n + 1) l.length⟩] s1 a2 (there_mark (by omega))
 have b5 := settleW_firm_len [⟨0, markL (n + 1) l.length⟩] s1
 generalize hq2 : settleW s1 [⟨0, markL (n + 1) l.length⟩] = q2 at *
 obtain ⟨x2, s2⟩ := q2
 simp only at b1 b2 b3 b4 b5
 subst b1
 rw [commitW_3 hq1 hq2]
 obtain ⟨c1, c2, c3, c4⟩ := settleW_live (homesOf (n + 1) l) s2 b2 (by rw [b5, a5]; exact there_homes hr)
 have c5 := settleW_firm_len (homesOf (n + 1) l) s2
 refine ⟨c1, c2, c3, by omega, fun k hk => ?_⟩
 rw [c4 k (by omega)]
 refine putL_congr _ _ _ k ?_
 rw [b4 k (by omega)]
 exact putL_congr _ _ _ k (a4 k hk)
theorem copies_at {l : List Bk} {x : Bk} (h : x ∈ copiesOf l) : ∃ i, ∃ hi : i < l.length, x = ⟨(1 + i : Nat), l[i].data⟩ := by
 simp only [copiesOf, List.mem_mapIdx] at h
 obtain ⟨i, hi, rfl⟩ := h
 exact ⟨i, hi, rfl⟩
theorem homes_at {n : Nat} {l : List Bk} {x : Bk} (h : x ∈ homesOf n l) : ∃ y ∈ l, x = ⟨41 + y.at_, homeL n y⟩ := by
 simp only [homesOf, List.mem_map] at h
 obtain ⟨y, hy, rfl⟩ := h
 exact ⟨y, hy, rfl⟩
theorem homeL_data (n : Nat) (x : Bk) (hx : x.data.length ≤ 248) : (homeL n x).drop 8 = (fillL x.data).take 248 := by
 unfold homeL fillL
 have e : (be4 (41 + x.at_.toNat) ++ be4 n ++ x.data).length = 8 + x.data.length := by simp [be4_length]; omega
 rw [e]
 have e2 : (be4 (41 + x.at_.toNat) ++ be4 n).length = 8 := rfl
 rw [List.append_assoc (be4 (41 + x.at_.toNat) ++ be4 n) x.data, List.drop_append_of_le_length (by omega), List.drop_of_length_le (by omega), List.nil_append]
 rw [List.take_append, List.take_of_length_le (by omega)]
 congr 1
 unfold rep
 rw [List.take_replicate]
 congr 1
 omega
theorem right_inj {l : List Bk} {N : Int} (h : RightL l N) {x y : Bk} (hx : x ∈ l) (hy : y ∈ l) (e : x.at_ = y.at_) : x = y := by
 obtain ⟨i, hi, rfl⟩ := List.getElem_of_mem hx
 obtain ⟨j, hj, rfl⟩ := List.getElem_of_mem hy
 rcases Nat.lt_trichotomy i j with hij | hij | hij
 ·exact absurd e ((h.2.2 j hj _ (List.getElem?_eq_getElem hj)).2.2.2 i _ hij (List.getElem?_eq_getElem hi))
 ·subst hij; rfl
 ·exact absurd e.symm ((h.2.2 i hi _ (List.getElem?_eq_getElem hi)).2.2.2 j _ hij (List.getElem?_eq_getElem hj))
section
variable {s : St} {n : Nat} {l : List Bk}
theorem commit_mark (h : Live s) (hr : RightL l ((s.firm.length : Int) - 41)) : blkB (commitW s n l).2 0 = markL (n + 1) l.length := by
 have hN := right_size hr
 rw [(commitW_live h hr).2.2.2.2 0 (by omega), putL_none _ _ 0 (fun x hx => by
  obtain ⟨y, hy, rfl⟩ := homes_at hx
  have := (right_all hr y hy).1
  simp only
  omega)]
 rfl
theorem commit_copy (h : Live s) (hr : RightL l ((s.firm.length : Int) - 41)) {i : Nat} (hi : i < l.length) : blkB (commitW s n l).2 (1 + i) = homeL (n + 1) l[i] := by
 have hN := right_size hr
 have h40 := hr.2.1
 rw [(commitW_live h hr).2.2.2.2 (1 + i) (by omega), putL_none _ _ (1 + i) (fun x hx => by
  obtain ⟨y, hy, rfl⟩ := homes_at hx
  have := (right_all hr y hy).1
  simp only
  omega), putL_none _ _ (1 + i) (fun x hx => by
  simp only [List.mem_singleton] at hx
  subst hx
  simp only
  omega)]
 rcases putL_cases (copiesOf (homesOf (n + 1) l)) (blkB s) (1 + i) with ⟨x, hx, h1, h2⟩ | ⟨h1, _⟩
 ·obtain ⟨j, hj, rfl⟩ := copies_at hx
  rw [h2]
  simp only at h1
  obtain rfl : j = i := by omega
  simp [homesOf]
 ·exfalso
  refine h1 ⟨(1 + i : Nat), (homesOf (n + 1) l)[i]'(by rw [homesOf_length]; exact hi) |>.data⟩ ?_ rfl
  simp only [copiesOf, List.mem_mapIdx]
  exact ⟨i, by rw [homesOf_length]; exact hi, rfl⟩
theorem commit_home (h : Live s) (hr : RightL l ((s.firm.length : Int) - 41)) {x : Bk} (hx : x ∈ l) : blkB (commitW s n l).2 (41 + x.at_.toNat) = homeL (n + 1) x := by
 have hb := (right_all hr x hx).1
 rw [(commitW_live h hr).2.2.2.2 (41 + x.at_.toNat) (by omega)]
 rcases putL_cases (homesOf (n + 1) l) _ (41 + x.at_.toNat) with ⟨y, hy, h1, h2⟩ | ⟨h1, _⟩
 ·obtain ⟨z, hz, rfl⟩ := homes_at hy
  rw [h2]
  simp only at h1
  have := (right_all hr z hz).1
  rw [right_inj hr hz hx (by omega)]
 ·exfalso
  refine h1 ⟨41 + x.at_, homeL (n + 1) x⟩ ?_ (by simp only; omega)
  simp only [homesOf, List.mem_map]
  exact ⟨x, hx, rfl⟩
theorem commit_else (h : Live s) (hr : RightL l ((s.firm.length : Int) - 41)) {j : Nat} (hj : 41 + j < s.firm.length) (hno : ∀ x ∈ l, x.at_ ≠ (j : Int)) : blkB (commitW s n l).2 (41 + j) = blkB s (41 + j) := by
 have h40 := hr.2.1
 rw [(commitW_live h hr).2.2.2.2 (41 + j) hj, putL_none _ _ (41 + j) (fun x hx => by
  obtain ⟨y, hy, rfl⟩ := homes_at hx
  have := hno y hy
  simp only
  omega), putL_none _ _ (41 + j) (fun x hx => by
  simp only [List.mem_singleton] at hx
  subst hx
  simp only
  omega), putL_none _ _ (41 + j) (fun x hx => by
  obtain ⟨i, hi, rfl⟩ := copies_at hx
  rw [homesOf_length] at hi
  simp only
  omega)]
end
def dataS (s : St) : List (List UInt8) := (List.range (s.firm.length - 41)).map fun j => (blkB s (41 + j)).drop 8
theorem dataS_length (s : St) : (dataS s).length = s.firm.length - 41 := by simp [dataS]
theorem dataS_get (s : St) (j : Nat) (hj : j < s.firm.length - 41) : (dataS s)[j]? = some ((blkB s (41 + j)).drop 8) := by simp [dataS, hj]
def setB (x : Bk) : List UInt8 := (fillL x.data).take 248
def afterL : List (List UInt8) → List Bk → List (List UInt8)
 | L, [] => L
 | L, x :: r => afterL (L.set x.at_.toNat (setB x)) r
theorem afterL_length : ∀ (l : List Bk) (L : List (List UInt8)), (afterL L l).length = L.length
 | [], _ => rfl
 | x :: r, L => by rw [afterL, afterL_length r]; simp
theorem afterL_cases : ∀ (l : List Bk) (L : List (List UInt8)) (j : Nat), j < L.length → (∃ x ∈ l, x.at_.toNat = j ∧ (afterL L l)[j]? = some (setB x)) ∨ ((∀ x ∈ l, x.at_.toNat ≠ j) ∧ (afterL L l)[j]? = L[j]?)
 | [], _, _, _ => .inr ⟨by simp, rfl⟩
 | x :: r, L, j, hj => by
  rw [afterL]
  rcases afterL_cases r (L.set x.at_.toNat (setB x)) j (by simpa using hj) with ⟨y, hy, h1, h2⟩ | ⟨h1, h2⟩
  ·exact .inl ⟨y, by simp [hy], h1, h2⟩
  ·by_cases hx : x.at_.toNat = j
   ·refine .inl ⟨x, by simp, hx, ?_⟩
    rw [h2, List.getElem?_set, if_pos hx, if_pos (by omega)]
   ·refine .inr ⟨fun y hy => ?_, ?_⟩
    ·rcases List.mem_cons.1 hy with rfl | hy
     ·exact hx
     ·exact h1 y hy
    ·rw [h2, List.getElem?_set, if_neg hx]
theorem dataS_commit {s : St} {n : Nat} {l : List Bk} (h : Live s) (hr : RightL l ((s.firm.length : Int) - 41)) : dataS (commitW s n l).2 = afterL (dataS s) l := by
 have hN := right_size hr
 have hlen := (commitW_live (n := n) h hr).2.2.2.1
 apply List.ext_getElem?
 intro j
 by_cases hj : j < s.firm.length - 41
 ·rw [dataS_get _ j (by omega)]
  rcases afterL_cases l (dataS s) j (by rw [dataS_length]; exact hj) with ⟨x, hx, h1, h2⟩ | ⟨h1, h2⟩
  ·rw [h2]
   have := commit_home (n := n) h hr hx
   rw [h1] at this
   rw [this, homeL_data _ _ (right_all hr x hx).2]
   rfl
  ·rw [h2, dataS_get _ j hj, commit_else h hr (by omega) (fun x hx => by
    have := h1 x hx
    have := (right_all hr x hx).1
    omega)]
 ·rw [List.getElem?_eq_none (by rw [dataS_length]; omega), List.getElem?_eq_none (by rw [afterL_length, dataS_length]; omega)]
theorem openL_there {s : St} (hf : Fine s) (hN : 42 ≤ s.firm.length) : ∀ x ∈ openL s, There s.firm.length x ∧ 41 ≤ x.at_ := by
 intro x hx
 unfold openL redoL at hx
 split at hx
 ·rename_i h
  simp only [redoHomes, List.mem_map, List.mem_range] at hx
  obtain ⟨i, hi, rfl⟩ := hx
  obtain ⟨h1, h2, _⟩ := h.2 i hi
  have := h.1
  exact ⟨⟨by simp only [hasBlock, decide_eq_true_eq]; omega, hf.blk (by omega)⟩, by simp only; omega⟩
 ·cases hx
theorem openSt_live {s : St} (hf : Fine s) (h : Live s) (hN : 42 ≤ s.firm.length) :
  openErr s = 0 ∧ Live (openSt s) ∧ (openSt s).firm.length = s.firm.length ∧ (openSt s).late.length ≤ s.late.length ∧ ∀ k, k < s.firm.length → blkB (openSt s) k = putL (blkB s) (openL s) k := by
 have hd : ¬ s.dead = true := by rw [h.1]; decide
 have hA : ¬ s.firm.length ≤ 41 := by omega
 have e1 : openErr s = if openL s = [] then 0 else (settleW s (openL s)).1 := by rw [openErr, if_neg hA, if_neg hd]
 have e2 : openSt s = if openL s = [] then s else (settleW s (openL s)).2 := by rw [openSt, if_neg hA, if_neg hd]
 rw [e1, e2]
 by_cases hL : openL s = []
 ·rw [if_pos hL, if_pos hL, hL]
  exact ⟨rfl, h, rfl, Nat.le_refl _, fun _ _ => rfl⟩
 ·rw [if_neg hL, if_neg hL]
  obtain ⟨a1, a2, a3, a4⟩ := settleW_live (openL s) s h (fun x hx => (openL_there hf hN x hx).1)
  exact ⟨a1, a2, settleW_firm_len _ _, by rw [a3]; simp, a4⟩
theorem openL_congr {s t : St} (hl : s.firm.length = t.firm.length) (hb : ∀ k, k ≤ 40 → blkB s k = blkB t k) : openL s = openL t ∧ openN s = openN t := by
 have h0 := hb 0 (by omega)
 have hc : ∀ n i, i < 40 → (CopyOk s n i ↔ CopyOk t n i) := fun n i hi => by
  unfold CopyOk
  rw [hb (1 + i) (by omega), hl]
 refine ⟨?_, by rw [openN, openN, h0]⟩
 unfold openL
 rw [h0]
 generalize markN (blkB t 0) = n
 generalize markK (blkB t 0) = k
 unfold redoL
 by_cases h : Redoes s n k
 ·have h' : Redoes t n k := ⟨h.1, fun i hi => (hc n i (by have := h.1; omega)).1 (h.2 i hi)⟩
  rw [if_pos h, if_pos h']
  unfold redoHomes
  apply List.map_congr_left
  intro i hi
  have := h.1
  rw [hb (1 + i) (by have := List.mem_range.1 hi; omega)]
 ·have h' : ¬ Redoes t n k := fun h' => h ⟨h'.1, fun i hi => (hc n i (by have := h'.1; omega)).2 (h'.2 i hi)⟩
  rw [if_neg h, if_neg h']
theorem open_journal {s : St} (hf : Fine s) (h : Live s) (hN : 42 ≤ s.firm.length) : ∀ k, k ≤ 40 → blkB (openSt s) k = blkB s k := by
 intro k hk
 rw [(openSt_live hf h hN).2.2.2.2 k (by omega), putL_none _ _ k (fun x hx => by have := (openL_there hf hN x hx).2; omega)]
theorem dataS_congr {s t : St} (hl : s.firm.length = t.firm.length) (hb : ∀ k, k < s.firm.length → blkB s k = blkB t k) : dataS s = dataS t := by
 unfold dataS
 rw [hl]
 apply List.map_congr_left
 intro i hi
 rw [hb (41 + i) (by have := List.mem_range.1 hi; omega)]
theorem lcom_take (n k : Nat) : (markL n k).take 4 = lcom := rfl
theorem markL_num (n k : Nat) (hn : n < 4294967296) (hk : k < 4294967296) : markN (markL n k) = n ∧ markK (markL n k) = k := by
 unfold markN markK
 rw [if_pos (lcom_take n k), if_pos (lcom_take n k)]
 have e1 : markL n k = lcom ++ (be4 n ++ (be4 k ++ rep (256 - (lcom ++ (be4 n ++ be4 k)).length) 0)) := by simp [markL, fillL]
 have e2 : markL n k = (lcom ++ be4 n) ++ (be4 k ++ rep (256 - (lcom ++ (be4 n ++ be4 k)).length) 0) := by simp [markL, fillL]
 constructor
 ·rw [e1]; exact num4_be4 n hn lcom _
 ·rw [e2]; exact num4_be4 k hk (lcom ++ be4 n) _
theorem homeL_num (n : Nat) (x : Bk) (hn : n < 4294967296) (hx : 41 + x.at_.toNat < 4294967296) : num4 (homeL n x) 0 = 41 + x.at_.toNat ∧ num4 (homeL n x) 4 = n := by
 have e1 : homeL n x = [] ++ (be4 (41 + x.at_.toNat) ++ (be4 n ++ (x.data ++ rep (256 - (be4 (41 + x.at_.toNat) ++ be4 n ++ x.data).length) 0))) := by simp [homeL, fillL]
 have e2 : homeL n x = be4 (41 + x.at_.toNat) ++ (be4 n ++ (x.data ++ rep (256 - (be4 (41 + x.at_.toNat) ++ be4 n ++ x.data).length) 0)) := by simp [homeL, fillL]
 constructor
 ·rw [e1]; exact num4_be4 _ hx [] _
 ·rw [e2]; exact num4_be4 n hn (be4 (41 + x.at_.toNat)) _
end Go.Proofs.YtmelaiefbpdifaaGreatDoor
/- Texts of the call's own; a device and its log of the call's own; marks of number nought or one alone: of no law. -/
namespace Go.Proofs.YtmelaiefbpdifaaGreatDoor
open Go.RowKit
def Strs (w : World) (A : Option Addr) (L : List (List UInt8)) : Prop := L = [] ∨ ∃ g o, A = some ⟨g, o, none⟩ ∧ g < w.heap.size ∧ ∀ i (h : i < L.length), w.cell? ⟨g, o + i, none⟩ = some (.string (strOf L[i]))
theorem Strs.kept {S : List Nat} {w w' : World} {A : Option Addr} {L : List (List UInt8)} (h : Strs w A L) (k : Only S w w') (hA : ∀ a, A = some a → a.block ∉ S) : Strs w' A L := by
 refine h.imp id ?_
 rintro ⟨g, o, rfl, hg, hc⟩
 have hS := hA _ rfl
 exact ⟨g, o, rfl, Nat.lt_of_lt_of_le hg k.size, fun i hi => k.cell (hc i hi) hS⟩
theorem Strs.get {w : World} {A : Option Addr} {L : List (List UInt8)} (h : Strs w A L) {i : Nat} (hi : i < L.length) : ∃ g o, A = some ⟨g, o, none⟩ ∧ g < w.heap.size ∧ ∀ i (h : i < L.length), w.cell? ⟨g, o + i, none⟩ = some (.string (strOf L[i])) := by
 rcases h with rfl | h
 ·simp at hi
 ·exact h
theorem take_snoc (s : St) (k : Nat) (h : k < s.firm.length - 41) : (dataS s).take (k + 1) = (dataS s).take k ++ [(blkB s (41 + k)).drop 8] := by
 rw [List.take_add_one, dataS_get s k h]
 rfl
theorem strOf_inj {a b : List UInt8} (h : strOf a = strOf b) : a = b := by
 have := congrArg (fun s : ByteArray => s.data.toList) h
 simpa [strOf] using this
theorem fresh_blk (N k : Nat) (hk : k < N) : blkB (fresh N) k = rep 256 0 := by
 unfold blkB
 show nowOf ((List.replicate N (rep 256 0)).getD k []) [] k = _
 rw [nowOf_nil, List.getD_eq_getElem?_getD, List.getElem?_replicate, if_pos hk]
 rfl
theorem mark_zero : markN (rep 256 0) = 0 ∧ markK (rep 256 0) = 0 := by decide +kernel
theorem fresh_live (N : Nat) : Live (fresh N) := ⟨rfl, by show (-1 : Int) < 0; decide⟩
theorem redoL_zero (s : St) (n : Nat) : redoL s n 0 = [] := by
 unfold redoL
 split <;> rfl
theorem open_fresh (N : Nat) (hN : 42 ≤ N) : openErr (fresh N) = 0 ∧ openSt (fresh N) = fresh N ∧ openN (fresh N) = 0 := by
 have hl : openL (fresh N) = [] := by
  unfold openL
  rw [fresh_blk N 0 (by omega), mark_zero.2]
  exact redoL_zero _ _
 have hA : ¬ (fresh N).firm.length ≤ 41 := by rw [fresh_firm]; omega
 have hd : ¬ (fresh N).dead = true := by show ¬ false = true; decide
 exact ⟨by rw [openErr, if_neg hA, if_neg hd, if_pos hl], by rw [openSt, if_neg hA, if_neg hd, if_pos hl], by rw [openN, fresh_blk N 0 (by omega)]; exact mark_zero.1⟩
theorem commits_live {s s' : St} {n n' : Nat} {l : List Bk} {x : Int} {f' : Bool} (h : Live s) (hr : RightL l ((s.firm.length : Int) - 41)) (hn : n ≠ 4294967295) (hc : CommitsTo s n false l x s' n' f') : x = 0 ∧ s' = (commitW s n l).2 ∧ n' = n + 1 ∧ f' = false := by
 have h0 := (commitW_live (n := n) h hr).1
 rcases hc with ⟨hx, hR, _⟩ | ⟨_, hx, hs, hrest⟩
 ·exfalso
  rcases hR with ⟨h1, _⟩ | ⟨_, h1, _⟩ | ⟨_, _, h1, _⟩ | ⟨_, _, _, h1⟩
  ·exact h1 hr
  ·cases h1
  ·exact hn h1
  ·exact hx h1
 ·rw [h0] at hx
  rcases hrest with ⟨_, h1, h2⟩ | ⟨h1, _⟩
  ·exact ⟨hx, hs, h1, h2⟩
  ·omega
theorem away {F F' : List Nat} {w : World} {g : Nat} (hF : ∀ j ∈ F', j ∈ F ∨ w.heap.size ≤ j) (hg : g ∉ F) (hlt : g < w.heap.size) : g ∉ F' := fun h => by
 rcases hF g h with h | h
 ·exact hg h
 ·omega
structure Own (w w' : World) (F : List Nat) (lp p : Nat) (s : St) (n : Nat) (f : Bool) : Prop where
 dev : Dev w' p F s
 log : LogB w' lp p n f
 out : lp ∉ F
 old : w.heap.size ≤ lp
 only : Only [] w w'
 new : ∀ j ∈ F, w.heap.size ≤ j ∧ j < w'.heap.size
section
variable {w w1 w2 : World} {F : List Nat} {lp p n : Nat} {s : St} {f : Bool}
theorem Own.lt (h : Own w w1 F lp p s n f) : lp < w1.heap.size := Blk.lt h.log
theorem Own.keep (h : Own w w1 F lp p s n f) (k : Only [] w1 w2) : Own w w2 F lp p s n f :=
 ⟨h.dev.kept k (by simp), Blk.kept h.log k (by simp), h.out, h.old, h.only.trans k, fun j hj => ⟨(h.new j hj).1, Nat.lt_of_lt_of_le (h.new j hj).2 k.size⟩⟩
theorem Own.beside {S : List Nat} (h : Own w w1 F lp p s n f) (k : Only S w1 w2) (hw : Only [] w w2) (hS : ∀ i ∈ S, i ∉ lp :: F) : Own w w2 F lp p s n f :=
 ⟨h.dev.kept k (fun i hi hm => hS i hm (by simp [hi])), Blk.kept h.log k (fun hm => hS lp hm (by simp)), h.out, h.old, hw, fun j hj => ⟨(h.new j hj).1, Nat.lt_of_lt_of_le (h.new j hj).2 k.size⟩⟩
theorem Own.acted {s' : St} {n' : Nat} {f' : Bool} (h : Own w w1 F lp p s n f) (k : Acted w1 w2 lp p F s' n' f') : ∃ F', Own w w2 F' lp p s' n' f' ∧ Only (lp :: F) w1 w2 ∧ ∀ j ∈ F', j ∈ F ∨ w1.heap.size ≤ j := by
 obtain ⟨F', h1, h2, h3, h4⟩ := k
 refine ⟨F', ⟨h1, h2, away (fun j hj => (h4 j hj).1) h.out h.lt, h.old, h.only.then h3 (fun i hi => ?_), fun j hj => ⟨?_, (h4 j hj).2⟩⟩, h3, fun j hj => (h4 j hj).1⟩
 ·rcases List.mem_cons.1 hi with rfl | hi
  ·exact .inr h.old
  ·exact .inr (h.new i hi).1
 ·rcases (h4 j hj).1 with h' | h'
  ·exact (h.new j h').1
  ·have := h.only.size; omega
theorem Own.commit (h : Own w w1 F lp p s n f) (A : Option Addr) (c : Nat) (l : List Bk) (hn : n < 4294967296) (hb : Blks w1 A l) (hl : l.length ≤ 9223372036854775807) (hc : l.length ≤ c) (hlate : s.late.length + 200 ≤ 1048576) :
  Calls Tryz.prog 41 #[.pointer (some ⟨lp, 0, none⟩), .slice A l.length c] w1 fun e w' => ∃ x s' n' f' F', e = .returned (.int .i64 x) ∧ CommitsTo s n f l x s' n' f' ∧ Own w w' F' lp p s' n' f' ∧ Only (lp :: F) w1 w' ∧ ∀ j ∈ F', j ∈ F ∨ w1.heap.size ≤ j := by
 refine (commit_any w1 lp p n f F s A c l hn h.log h.dev h.out hb hl hc hlate).mono ?_
 rintro e w' ⟨x, s', n', f', h1, h2, h3⟩
 obtain ⟨F', k1, k2, k3⟩ := h.acted h3
 exact ⟨x, s', n', f', F', h1, h2, k1, k2, k3⟩
end
structure OwnD (w w' : World) (F : List Nat) (p : Nat) (s : St) : Prop where
 dev : Dev w' p F s
 only : Only [] w w'
 new : ∀ j ∈ F, w.heap.size ≤ j ∧ j < w'.heap.size
theorem Own.d {w w1 : World} {F : List Nat} {lp p n : Nat} {s : St} {f : Bool} (h : Own w w1 F lp p s n f) : OwnD w w1 F p s := ⟨h.dev, h.only, h.new⟩
theorem OwnD.keep {w w1 w2 : World} {F : List Nat} {p : Nat} {s : St} (h : OwnD w w1 F p s) (k : Only [] w1 w2) : OwnD w w2 F p s :=
 ⟨h.dev.kept k (by simp), h.only.trans k, fun j hj => ⟨(h.new j hj).1, Nat.lt_of_lt_of_le (h.new j hj).2 k.size⟩⟩
theorem ownNew_any (w w1 : World) (N : Nat) (h1 : 1 ≤ N) (h2 : N ≤ 1024) (k : Only [] w w1) :
  Calls Tryz.prog 10 #[.int .i64 (N : Int)] w1 fun e w' => ∃ p F, e = .returned (.pointer (some ⟨p, 0, none⟩)) ∧ OwnD w w' F p (fresh N) ∧ Only [] w1 w' ∧ ∀ j ∈ F, w1.heap.size ≤ j := by
 refine (new_any w1 (N : Int) (by omega) (by omega)).mono ?_
 rintro e w' ⟨p, F, he, hd, hk, hF⟩
 have hc : clamp (N : Int) = N := by unfold clamp; omega
 rw [hc] at hd
 obtain ⟨F', k1, k2, k3⟩ := hd.trim
 exact ⟨p, F', he, ⟨k1, k.trans hk, fun j hj => ⟨Nat.le_trans k.size (hF j (k2 j hj)), k3 j hj⟩⟩, hk, fun j hj => hF j (k2 j hj)⟩
def Mk (s : St) : Prop := markN (s.firm.getD 0 []) ≤ 1 ∧ ∀ x ∈ s.late, x.1 = 0 → markN x.2 ≤ 1
theorem Mk.settled {s : St} (h : Mk s) (keep : Nat) (h1 : 1 ≤ s.firm.length) : Mk (settledAll s keep) := by
 refine ⟨?_, fun x hx => by cases hx⟩
 show markN ((settle keep s.late s.firm).getD 0 []) ≤ 1
 have hg := getD_get (l := settle keep s.late s.firm) (k := 0) (by rw [settle_length]; omega) ([] : List UInt8)
 rcases settle_mem keep s.firm 0 _ s.late hg with h' | h'
 ·have := getD_get (l := s.firm) (k := 0) (by omega) ([] : List UInt8)
  rw [h'] at this
  injection this with this
  rw [this]
  exact h.1
 ·exact h.2 _ h' rfl
theorem Mk.burnt {s : St} (h : Mk s) : Mk (burnt s) := by
 unfold Mk
 rw [burnt_firm, burnt_late]
 exact h
theorem Mk.written {s : St} (h : Mk s) (k : Int) (b : List UInt8) (hb : k = 0 → markN b ≤ 1) : Mk (written s k b) := by
 unfold Go.Proofs.YtmelaiefbpdifaaGreatDoor.written
 split
 ·exact h
 ·rename_i hk
  split
  ·exact h.burnt
  ·refine ⟨h.burnt.1, fun x hx hx0 => ?_⟩
   rcases List.mem_append.1 hx with hx | hx
   ·exact h.2 x hx hx0
   ·simp at hx
    subst hx
    simp only at hx0
    simp [hasBlock] at hk
    exact hb (by omega)
theorem Mk.barred {s : St} (h : Mk s) (h1 : 1 ≤ s.firm.length) : Mk (barred s) := by
 unfold Go.Proofs.YtmelaiefbpdifaaGreatDoor.barred
 split
 ·exact h.burnt
 ·exact h.burnt.settled _ (by rw [burnt_firm]; exact h1)
theorem Mk.settleW : ∀ (l : List Bk) (s : St), Mk s → 1 ≤ s.firm.length → (∀ x ∈ l, x.at_ = 0 → markN x.data ≤ 1) → Mk (settleW s l).2
 | [], s, h, h1, _ => h.barred h1
 | x :: r, s, h, h1, hl => by
  have hw := h.written x.at_ x.data (hl x (by simp))
  rw [Go.Proofs.YtmelaiefbpdifaaGreatDoor.settleW]
  split
  ·exact Mk.settleW r _ hw (by rw [written_firm]; exact h1) (fun y hy => hl y (by simp [hy]))
  ·exact hw
theorem Mk.commitW {s : St} {l : List Bk} (h : Mk s) (hr : RightL l ((s.firm.length : Int) - 41)) : Mk (commitW s 0 l).2 := by
 have hN := right_size hr
 have h40 := hr.2.1
 have c1 : ∀ x ∈ copiesOf (homesOf (0 + 1) l), x.at_ = 0 → markN x.data ≤ 1 := fun x hx h0 => by
  obtain ⟨i, hi, rfl⟩ := copies_at hx
  simp only at h0
  omega
 have c2 : ∀ x ∈ [(⟨0, markL (0 + 1) l.length⟩ : Bk)], x.at_ = 0 → markN x.data ≤ 1 := fun x hx _ => by
  simp only [List.mem_singleton] at hx
  subst hx
  simp only
  rw [(markL_num (0 + 1) l.length (by decide) (by omega)).1]
  omega
 have c3 : ∀ x ∈ homesOf (0 + 1) l, x.at_ = 0 → markN x.data ≤ 1 := fun x hx h0 => by
  obtain ⟨y, hy, rfl⟩ := homes_at hx
  have := (right_all hr y hy).1
  simp only at h0
  omega
 have m1 := Mk.settleW _ s h (by omega) c1
 have f1 := settleW_firm_len (copiesOf (homesOf (0 + 1) l)) s
 have m2 := Mk.settleW _ _ m1 (by omega) c2
 have f2 := settleW_firm_len [⟨0, markL (0 + 1) l.length⟩] (Go.Proofs.YtmelaiefbpdifaaGreatDoor.settleW s (copiesOf (homesOf (0 + 1) l))).2
 have m3 := Mk.settleW _ _ m2 (by omega) c3
 unfold Go.Proofs.YtmelaiefbpdifaaGreatDoor.commitW
 split
 ·exact m1
 ·split
  ·exact m2
  ·exact m3
theorem Mk.crashed {s : St} (h : Mk s) (keep : Nat) (h1 : 1 ≤ s.firm.length) : Mk (crashed s keep) := h.settled keep h1
theorem Mk.number {s : St} (h : Mk s) : openN s ≤ 1 := by
 unfold openN blkB
 rcases last_spec (s.firm.getD 0 []) 0 s.late with ⟨_, h2, _⟩ | ⟨_, _, h3⟩
 ·rw [h2]; exact h.1
 ·exact h.2 _ (List.mem_of_getElem? h3) rfl
theorem Mk.fresh (N : Nat) (hN : 1 ≤ N) : Mk (fresh N) := by
 refine ⟨?_, fun x hx => by cases hx⟩
 show markN ((List.replicate N (rep 256 0)).getD 0 []) ≤ 1
 rw [List.getD_eq_getElem?_getD, List.getElem?_replicate, if_pos (by omega)]
 show markN (rep 256 0) ≤ 1
 rw [mark_zero.1]
 omega
theorem commits_to {s s' : St} {n n' : Nat} {l : List Bk} {x : Int} {f' : Bool} (hc : CommitsTo s n false l x s' n' f') : s' = s ∨ (RightL l ((s.firm.length : Int) - 41) ∧ s' = (commitW s n l).2) := by
 rcases hc with ⟨_, _, h, _⟩ | ⟨hR, _, h, _⟩
 ·exact .inl h
 ·refine .inr ⟨?_, h⟩
  rcases hR with ⟨_, h1⟩ | ⟨_, _, h1⟩ | ⟨_, _, _, h1⟩ | ⟨h1, _⟩
  ·omega
  ·omega
  ·omega
  ·exact h1
theorem commitW_len (s : St) (n : Nat) (l : List Bk) : (commitW s n l).2.firm.length = s.firm.length := by
 have f1 := settleW_firm_len (copiesOf (homesOf (n + 1) l)) s
 have f2 := settleW_firm_len [⟨0, markL (n + 1) l.length⟩] (settleW s (copiesOf (homesOf (n + 1) l))).2
 have f3 := settleW_firm_len (homesOf (n + 1) l) (settleW (settleW s (copiesOf (homesOf (n + 1) l))).2 [⟨0, markL (n + 1) l.length⟩]).2
 unfold commitW
 split
 ·exact f1
 ·split
  ·omega
  ·omega
section
variable {w w1 : World} {F : List Nat} {lp p n : Nat} {s : St} {f : Bool}
theorem OwnD.same (h : OwnD w w1 F p s) {w2 : World} {t : St} (k : Same w1 w2 p F t) : OwnD w w2 F p t :=
 ⟨k.1, h.only.then k.2 (fun i hi => .inr (h.new i hi).1), fun j hj => ⟨(h.new j hj).1, Nat.lt_of_lt_of_le (h.new j hj).2 k.2.size⟩⟩
theorem Own.fuse (h : Own w w1 F lp p s n f) (x : Int) (h0 : -9223372036854775808 ≤ x) (h1 : x ≤ 9223372036854775807) :
  Calls Tryz.prog 22 #[.pointer (some ⟨p, 0, none⟩), .int .i64 x] w1 fun e w' => e = .returned (.tuple #[]) ∧ Own w w' F lp p (lit s x) n f :=
 (fuse_any w1 p F s x h0 h1 h.dev).mono fun _ _ ⟨he, hs⟩ => ⟨he, (h.d.same hs).dev, Blk.kept h.log hs.2 h.out, h.out, h.old, (h.d.same hs).only, (h.d.same hs).new⟩
theorem OwnD.crash (h : OwnD w w1 F p s) (keep : Nat) (hk : keep < 18446744073709551616) :
  Calls Tryz.prog 20 #[.pointer (some ⟨p, 0, none⟩), .int .u64 (keep : Int)] w1 fun e w' => e = .returned (.tuple #[]) ∧ OwnD w w' F p (crashed s keep) ∧ Only F w1 w' :=
 (crash_any w1 p F s keep hk h.dev).mono fun _ _ ⟨he, hs⟩ => ⟨he, h.same hs, hs.2⟩
end
end Go.Proofs.YtmelaiefbpdifaaGreatDoor
