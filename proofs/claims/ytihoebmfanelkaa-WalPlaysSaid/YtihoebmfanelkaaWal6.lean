/- Open. -/
import Derived.Test.YtihoebmfanelkaaWal5
namespace Go.Proofs.Ytihoebmfanelkaa
open Go.RowKit

/-- What Open mends, what it answers, the device behind it, the log's number. -/
def openL (s : St) : List Bk := redoL s (markN (blkB s 0)) (markK (blkB s 0))
def openErr (s : St) : Int := if s.firm.length ≤ 41 then 1 else if s.dead = true then 5 else if openL s = [] then 0 else (settleW s (openL s)).1
def openSt (s : St) : St := if s.firm.length ≤ 41 then s else if s.dead = true then s else if openL s = [] then s else (settleW s (openL s)).2
def openN (s : St) : Nat := markN (blkB s 0)
theorem openN_lt (s : St) : openN s < 4294967296 := markN_lt _
theorem openL_few (s : St) : (openL s).length ≤ 40 := by
  unfold openL redoL
  split
  · rename_i h
    rw [redoHomes_length]
    exact h.1
  · simp

/-- A log in memory. -/
def LogB (w : World) (lp p : Nat) (n : Nat) (f : Bool) : Prop := Blk w lp 89 #[.pointer (some ⟨p, 0, none⟩), .int .u32 (n : Int), .bool f]
def Opened (w w' : World) (p : Nat) (F : List Nat) (s : St) (e : Ending) : Prop :=
  ∃ F', Dev w' p F' (openSt s) ∧ Only F w w' ∧ Hid (∀ j ∈ F', (j ∈ F ∨ w.heap.size ≤ j) ∧ j < w'.heap.size) ∧
    ((openErr s ≠ 0 ∧ e = .returned (.tuple #[.pointer none, .int .i64 (openErr s)])) ∨
     (openErr s = 0 ∧ ∃ lp, e = .returned (.tuple #[.pointer (some ⟨lp, 0, none⟩), .int .i64 0]) ∧ LogB w' lp p (openN s) false ∧ w.heap.size ≤ lp ∧ lp ∉ F'))

theorem Opened.mono {w w' : World} {p : Nat} {F G : List Nat} {s : St} {e : Ending} (h : Opened w w' p F s e) (hG : ∀ i ∈ F, i ∈ G) : Opened w w' p G s e := by
  obtain ⟨F', h1, h2, h3, h4⟩ := h
  exact ⟨F', h1, h2.more (fun i hi => .inl (hG i hi)), fun j hj => ⟨(h3.out j hj).1.imp (hG j) id, (h3.out j hj).2⟩, h4⟩
theorem opened_no {w w' : World} {p : Nat} {F : List Nat} {s : St} {x : Int} (hd : Did w w' p F (openSt s)) (h : openErr s = x) (hx : x ≠ 0) : Opened w w' p F s (.returned (.tuple #[.pointer none, .int .i64 x])) := by
  obtain ⟨F', h1, h2, h3⟩ := hd
  obtain ⟨F2, k1, k2, k3⟩ := h1.trim
  exact ⟨F2, k1, h2, fun j hj => ⟨h3.out j (k2 j hj), k3 j hj⟩, .inl ⟨by rw [h]; exact hx, by rw [h]⟩⟩
theorem opened_yes {w w' : World} {p : Nat} {F : List Nat} {s : St} {y : Int} (hd : Did w w' p F (openSt s)) (h : openErr s = 0) (hy : y = (openN s : Nat)) :
    Opened w (w'.alloc (.cells #[.pointer (some ⟨p, 0, none⟩), .int .u32 y, .bool false] 89)) p F s (.returned (.tuple #[.pointer (some ⟨w'.heap.size, 0, none⟩), .int .i64 0])) := by
  obtain ⟨F', h1, h2, h3⟩ := hd
  obtain ⟨F2, k1, k2, k3⟩ := h1.trim
  refine ⟨F2, k1.kept ((Only.refl [] w').alloc _) (by simp), h2.trans ((Only.refl F w').alloc _), fun j hj => ⟨h3.out j (k2 j hj), by have := k3 j hj; simp; omega⟩, .inr ⟨h, w'.heap.size, rfl, ?_, h2.size, fun hm => by have := k3 _ hm; omega⟩⟩
  unfold LogB
  rw [← hy]
  exact Blk.new _ _ _

theorem open_nil (w : World) : Calls Try.prog 18 #[.pointer none] w fun e w' => e = .returned (.tuple #[.pointer none, .int .i64 1]) ∧ w' = w := by
  go_enter Try.func18, Try.ntmps18
  go_wp2_with fail
  refine (blocks_nil w).mono ?_
  rintro e w1 ⟨rfl, rfl⟩
  go_wp2
  go_ret2
  exact ⟨rfl, rfl⟩

set_option maxRecDepth 100000 in
set_option maxHeartbeats 2000000 in
theorem open_any (w : World) (p : Nat) (F : List Nat) (s : St) (hd : Dev w p F s) (hlate : s.late.length + 40 ≤ 1048576) :
    Calls Try.prog 18 #[.pointer (some ⟨p, 0, none⟩)] w fun e w' => Opened w w' p F s e := by
  obtain ⟨F0, hd0, hsub, hF0⟩ := hd.trim
  refine Calls.mono (R := fun e w' => Opened w w' p F0 s e) ?_ (fun e w' h => h.mono hsub)
  clear hd hsub F
  rename List Nat => F
  rename Dev w p F s => hd
  replace hF0 := Lib.hid hF0
  have fine := hd.fine
  have hblocks := blocks_any w p F s hd
  have hself : Did w w p F s := ⟨F, hd, Only.refl _ _, fun k hk => .inl hk⟩
  by_cases hA : s.firm.length ≤ 41
  · have e1 : openErr s = 1 := by rw [openErr, if_pos hA]
    have e2 : openSt s = s := by rw [openSt, if_pos hA]
    have hfin : Opened w w p F s (.returned (.tuple #[.pointer none, .int .i64 1])) := opened_no (by rw [e2]; exact hself) e1 (by decide)
    replace hfin := Lib.hid hfin
    have hA' : (s.firm.length : Int) ≤ 41 := by omega
    clear fine e1 e2 hself hd
    generalize s.firm.length = N at *
    go_enter Try.func18, Try.ntmps18
    go_wp2_with fail
    refine hblocks.mono ?_
    rintro e w1 ⟨rfl, rfl⟩
    go_wp2
    go_ret2
    exact hfin.out
  have hA' : ¬ (s.firm.length : Int) ≤ 41 := by omega
  have hread := read_any w p F s ((0 : Nat) : Int) hd
  by_cases hB : s.dead = true
  · have e1 : openErr s = 5 := by rw [openErr, if_neg hA, if_pos hB]
    have e2 : openSt s = s := by rw [openSt, if_neg hA, if_pos hB]
    have hfin : Opened w w p F s (.returned (.tuple #[.pointer none, .int .i64 5])) := opened_no (by rw [e2]; exact hself) e1 (by decide)
    replace hfin := Lib.hid hfin
    have hh : hasBlock s.firm.length ((0 : Nat) : Int) = true := by simp only [hasBlock, decide_eq_true_eq]; omega
    have r1 : readErr s ((0 : Nat) : Int) = 5 := by simp [readErr, hB]; have := hh; simpa using this
    rw [r1] at hread
    generalize strOf (readB s ((0 : Nat) : Int)) = rb at *
    clear fine e1 e2 hself hd hA hh r1 hB hlate
    generalize s.firm.length = N at *
    replace hread := Lib.hid hread
    go_enter Try.func18, Try.ntmps18
    go_wp2_with fail
    refine hblocks.mono ?_
    rintro e w1 ⟨rfl, rfl⟩
    go_wp2_with fail
    refine hread.out.mono ?_
    rintro e w1 ⟨rfl, rfl⟩
    go_wp2
    go_ret2
    exact hfin.out
  have hB' : s.dead = false := by simpa using hB
  obtain ⟨r1, r2⟩ := readB_blk s 0 (by omega) hB'
  rw [r1, r2] at hread
  have hb0 := fine.blk (k := 0) (by omega)
  have hmark := fun W => markOf_any W (blkB s 0) hb0
  have hN := markN_lt (blkB s 0)
  have hK := markK_lt (blkB s 0)
  have hredo := fun W h => redo_any W p F s (markN (blkB s 0)) (markK (blkB s 0)) hN hK h hB' (by omega)
  rw [show redoL s (markN (blkB s 0)) (markK (blkB s 0)) = openL s from rfl] at hredo
  have hfew := openL_few s
  have e1 : openErr s = if openL s = [] then 0 else (settleW s (openL s)).1 := by rw [openErr, if_neg hA, if_neg hB]
  have e2 : openSt s = if openL s = [] then s else (settleW s (openL s)).2 := by rw [openSt, if_neg hA, if_neg hB]
  have hset := fun W A c h h2 h3 => wsettle_any W p F s A c (openL s) h h2 h3 (by omega)
  have hNn : ((markN (blkB s 0) : Nat) : Int) = (openN s : Nat) := rfl
  generalize hL : openL s = L at *
  generalize strOf (blkB s 0) = b0 at *
  generalize ((markN (blkB s 0) : Nat) : Int) = y at *
  generalize ((markK (blkB s 0) : Nat) : Int) = yk at *
  have y0 : 0 ≤ y := by omega
  have y1 : y < 4294967296 := by have := openN_lt s; omega
  clear hN hK hb0 r1 r2
  replace hNn := Lib.hid hNn
  replace hread := Lib.hid hread
  replace hmark := Lib.hid hmark
  replace hredo := Lib.hid hredo
  replace hset := Lib.hid hset
  replace e1 := Lib.hid e1
  replace e2 := Lib.hid e2
  replace hL := Lib.hid hL
  replace hblocks := Lib.hid hblocks
  have hfewI : (L.length : Int) ≤ 40 := by omega
  clear fine hself hA hB hlate hfew
  generalize s.firm.length = N at *
  go_enter Try.func18, Try.ntmps18
  go_wp2_with fail
  refine hblocks.out.mono ?_
  rintro e w1 ⟨rfl, rfl⟩
  go_wp2_with fail
  refine hread.out.mono ?_
  rintro e w2 ⟨rfl, rfl⟩
  go_wp2_with fail
  refine (hmark.out _).mono ?_
  rintro e w3 ⟨rfl, k3⟩
  go_wp2_with fail
  have k4 : Only [] w3 (w3.alloc (.cells #[.int .u32 y, .int .u32 yk] 91)) := (Only.refl [] w3).alloc _
  have bm : Blk (w3.alloc (.cells #[.int .u32 y, .int .u32 yk] 91)) w3.heap.size 91 #[.int .u32 y, .int .u32 yk] := Blk.new _ _ _
  generalize hW : w3.alloc (.cells #[.int .u32 y, .int .u32 yk] 91) = W at *
  obtain ⟨q, hq⟩ : ∃ q, q = w3.heap.size := ⟨_, rfl⟩
  rw [← hq] at bm
  simp only [← hq]
  have k04 := k3.trans k4
  have hd4 := hd.kept k04 (by simp)
  refine (hredo.out _ hd4).mono ?_
  rintro e w5 ⟨v, rfl, A, c, rfl, hbl, k5, hnewA⟩
  have k05 := k04.trans k5
  have bm5 := bm.kept k5 (by simp)
  have hd5 := hd.kept k05 (by simp)
  have c0 := bm5.cell 0
  simp only [List.getElem?_toArray, List.getElem?_cons_zero] at c0
  replace hW := Lib.hid hW
  replace hq := Lib.hid hq
  by_cases hLn : L = []
  · have e1' := e1.out
    have e2' := e2.out
    rw [if_pos hLn] at e1' e2'
    have hl0 : (L.length : Int) = 0 := by rw [hLn]; rfl
    have hfin : Opened w2 (w5.alloc (.cells #[.pointer (some ⟨p, 0, none⟩), .int .u32 y, .bool false] 89)) p F s (.returned (.tuple #[.pointer (some ⟨w5.heap.size, 0, none⟩), .int .i64 0])) := by
      refine opened_yes ?_ e1' hNn.out
      rw [e2']
      exact ⟨F, hd5, k05.more (by simp), fun j hj => .inl hj⟩
    replace hfin := Lib.hid hfin
    replace hLn := Lib.hid hLn
    clear hd hd4 hd5 bm bm5 k3 k4 k04 k5 k05 hbl e1' e2' hnewA
    go_wp2
    go_ret2
    exact hfin.out
  · have hl0 : (0 : Int) < (L.length : Int) := by
      have := List.length_pos_iff.2 hLn
      omega
    have e1' := e1.out
    have e2' := e2.out
    rw [if_neg hLn] at e1' e2'
    have hAF : ∀ a, A = some a → a.block ∉ F := fun a ha hm => by
      have := hnewA a ha
      have := hF0.out _ hm
      have := k04.size
      omega
    go_wp2_with fail
    refine (hset.out _ A c hd5 hbl hAF).mono ?_
    rintro e w6 ⟨rfl, hdid⟩
    have hqF : q ∉ F := fun hm => by
      have := hF0.out _ hm
      have := k3.size
      have := hq.out
      omega
    have d0 := hdid.cell c0 hqF
    have hdid2 := hdid.from k05
    clear hdid c0 bm bm5 k3 k4 k04 k5 k05 hbl hnewA hAF hd hd4 hd5
    by_cases hz : (settleW s L).1 = 0
    · have hfin : Opened w2 (w6.alloc (.cells #[.pointer (some ⟨p, 0, none⟩), .int .u32 y, .bool false] 89)) p F s (.returned (.tuple #[.pointer (some ⟨w6.heap.size, 0, none⟩), .int .i64 0])) := by
        refine opened_yes ?_ (by rw [e1', hz]) hNn.out
        rw [e2']
        exact hdid2
      rw [hz]
      replace hfin := Lib.hid hfin
      replace hz := Lib.hid hz
      replace hLn := Lib.hid hLn
      clear e1' e2' hdid2
      go_wp2
      go_ret2
      exact hfin.out
    · have hfin : Opened w2 w6 p F s (.returned (.tuple #[.pointer none, .int .i64 (settleW s L).1])) := by
        refine opened_no ?_ e1' hz
        rw [e2']
        exact hdid2
      have hz' : ((settleW s L).1 != 0) = true := by simpa using hz
      clear e1' e2' hdid2
      generalize (settleW s L).1 = ee at *
      replace hfin := Lib.hid hfin
      replace hLn := Lib.hid hLn
      go_wp2
      go_ret2
      exact hfin.out

end Go.Proofs.Ytihoebmfanelkaa
