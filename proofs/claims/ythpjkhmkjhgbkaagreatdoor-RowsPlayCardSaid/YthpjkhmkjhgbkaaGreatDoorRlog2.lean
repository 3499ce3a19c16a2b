/- The document's log: Open. -/
import Derived.Test.YthpjkhmkjhgbkaaGreatDoorRlog1
namespace Go.Proofs.YthpjkhmkjhgbkaaGreatDoor
open Go.RowKit

def RLogB (w : World) (lp p : Nat) (n : Nat) (f : Bool) : Prop := Blk w lp 114 #[.pointer (some ⟨p, 0, none⟩), .int .u32 (n : Int), .bool f]
def ROpened (w w' : World) (p : Nat) (G : List Nat) (s : St) (e : Ending) : Prop :=
  ∃ G', Ref w' p G' (openSt s) ∧ Only G w w' ∧ Hid (∀ j ∈ G', (j ∈ G ∨ w.heap.size ≤ j) ∧ j < w'.heap.size) ∧
    ((openErr s ≠ 0 ∧ e = .returned (.tuple #[.pointer none, .int .i64 (openErr s)])) ∨
     (openErr s = 0 ∧ ∃ lp, e = .returned (.tuple #[.pointer (some ⟨lp, 0, none⟩), .int .i64 0]) ∧ RLogB w' lp p (openN s) false ∧ w.heap.size ≤ lp ∧ lp ∉ G'))
theorem ROpened.mono {w w' : World} {p : Nat} {F G : List Nat} {s : St} {e : Ending} (h : ROpened w w' p F s e) (hG : ∀ i ∈ F, i ∈ G) : ROpened w w' p G s e := by
  obtain ⟨F', h1, h2, h3, h4⟩ := h
  exact ⟨F', h1, h2.more (fun i hi => .inl (hG i hi)), fun j hj => ⟨(h3.out j hj).1.imp (hG j) id, (h3.out j hj).2⟩, h4⟩

theorem blkB_other (s : St) (k : Int) (b : List UInt8) (i : Nat) (h : k.toNat ≠ i) : blkB (written s k b) i = blkB s i := by
  unfold written
  split
  · rfl
  · split
    · unfold blkB
      rw [burnt_firm, burnt_late]
    · unfold blkB
      simp only [burnt_firm, nowOf_snoc]
      rw [if_neg h]

theorem ropened_no {w w1 w' : World} {p : Nat} {G : List Nat} {s : St} (k1 : Only [] w w1) (hd : RefDid w1 w' p G (openSt s)) (h : openErr s = 5) : ROpened w w' p G s (.returned (.tuple #[.pointer none, .int .i64 5])) := by
  obtain ⟨G', h1, h2, h3⟩ := hd
  refine ⟨G', h1, (k1.more (T := G) (by simp)).then h2 (fun i hi => .inl hi), fun j hj => ⟨(h3 j hj).1.imp id (fun h => Nat.le_trans k1.size h), (h3 j hj).2⟩, .inl ⟨by rw [h]; decide, by rw [h]⟩⟩
theorem ropened_yes {w w1 w' : World} {p lp : Nat} {G : List Nat} {s : St} (k1 : Only [] w w1) (hd : RefDid w1 w' p G (openSt s)) (h : openErr s = 0) (hlog : RLogB w1 lp p (openN s) false) (hlp : w.heap.size ≤ lp) (hout : lp ∉ G) :
    ROpened w w' p G s (.returned (.tuple #[.pointer (some ⟨lp, 0, none⟩), .int .i64 0])) := by
  obtain ⟨G', h1, h2, h3⟩ := hd
  refine ⟨G', h1, (k1.more (T := G) (by simp)).then h2 (fun i hi => .inl hi), fun j hj => ⟨(h3 j hj).1.imp id (fun h => Nat.le_trans k1.size h), (h3 j hj).2⟩, .inr ⟨h, lp, rfl, Blk.kept hlog h2 hout, hlp, fun hm => ?_⟩⟩
  rcases (h3 lp hm).1 with h' | h'
  · exact hout h'
  · have := Blk.lt hlog; omega

set_option maxRecDepth 100000 in
set_option maxHeartbeats 4000000 in
theorem ropen_any (w : World) (p : Nat) (G : List Nat) (s : St) (hlate : s.late.length + 100 ≤ 1048576) (hd : Ref w p G s) :
    Calls Tryz.prog 27 #[.pointer (some ⟨p, 0, none⟩)] w fun e w' => ROpened w w' p G s e := by
  obtain ⟨G0, hd0, hsub, hG0⟩ := hd.trim
  refine Calls.mono (R := fun e w' => ROpened w w' p G0 s e) ?_ (fun e w' h => h.mono hsub)
  clear hd hsub G
  rename List Nat => G
  rename Ref w p G s => hd
  have fine := hd.fine
  obtain ⟨gf, cf, A, cl, c0, c1, c2, c3, _⟩ := hd.cells (by have := fine.pos; omega)
  have hself : RefDid w w p G s := RefSame.did ⟨hd, Only.refl G w⟩
  by_cases hA : s.firm.length ≤ 41
  · have e1 : openErr s = 1 := by rw [openErr, if_pos hA]
    have e2 : openSt s = s := by rw [openSt, if_pos hA]
    have hfin : ROpened w w p G s (.returned (.tuple #[.pointer none, .int .i64 1])) := by
      obtain ⟨G', h1, h2, h3⟩ := hself
      exact ⟨G', by rw [e2]; exact h1, h2, fun j hj => h3 j hj, .inl ⟨by rw [e1]; decide, by rw [e1]⟩⟩
    replace hfin := Lib.hid hfin
    have hA' : (s.firm.length : Int) < 42 := by omega
    clear e1 e2 hself hd fine hA
    generalize s.firm.length = N at *
    go_enter Tryz.func27, Tryz.ntmps27
    go_wp2
    go_ret2
    exact hfin.out
  have hA' : ¬ (s.firm.length : Int) < 42 := by omega
  by_cases hB : s.dead = true
  · have e1 : openErr s = 5 := by rw [openErr, if_neg hA, if_pos hB]
    have e2 : openSt s = s := by rw [openSt, if_neg hA, if_pos hB]
    have hfin : ROpened w w p G s (.returned (.tuple #[.pointer none, .int .i64 5])) := ropened_no (Only.refl _ _) (by rw [e2]; exact hself) e1
    replace hfin := Lib.hid hfin
    rw [hB] at c3
    clear e1 e2 hself hd fine hA hB
    generalize s.firm.length = N at *
    go_enter Tryz.func27, Tryz.ntmps27
    go_wp2
    go_ret2
    exact hfin.out
  have hB' : s.dead = false := by simpa using hB
  rw [hB'] at c3
  have hN42 : 42 ≤ s.firm.length := by omega
  have hb0 := fine.blk (k := 0) (by omega)
  have hnow0 := fun W (k : Only [] w W) => now_blk W p G s 0 (by omega) (by omega) (hd.kept k (by simp))
  have hcut := upto_strOf (P := Tryz.prog) 9 Tryz.underlying9 (blkB s 0) 4 4 .i64 rfl (by omega)
  have h4 := fun W => at_any W (blkB s 0) 4 (by omega) (by omega)
  have lt4 := num4_lt (blkB s 0) 4
  have hNn : openN s = if (blkB s 0).take 4 = lcom then num4 (blkB s 0) 4 else 0 := rfl
  have hwhole := fun W (k : Only [] w W) => rwhole_any W p G s hN42 (by omega) (hd.kept k (by simp))
  generalize hXX : strOf (blkB s 0) = B at *
  have hXe : (blkB s 0).take 4 = lcom → ((strOf ((blkB s 0).take 4)).toList == [76, 67, 79, 77]) = true := fun h => by
    rw [h, show (strOf lcom).toList = lcom from ByteArray.toList_mk _]
    rfl
  have hXn : ¬ (blkB s 0).take 4 = lcom → ((strOf ((blkB s 0).take 4)).toList == [76, 67, 79, 77]) = false := fun h => by
    rw [show (strOf ((blkB s 0).take 4)).toList = (blkB s 0).take 4 from ByteArray.toList_mk _, beq_eq_false_iff_ne]
    exact h
  generalize strOf ((blkB s 0).take 4) = X at *
  generalize hn4 : num4 (blkB s 0) 4 = n4 at *
  obtain ⟨y, hy⟩ : ∃ y : Int, y = (n4 : Int) := ⟨_, rfl⟩
  have y0 : 0 ≤ y := by omega
  have y1 : y < 4294967296 := by omega
  rw [← hy] at h4
  replace hXX := Lib.hid hXX
  replace hn4 := Lib.hid hn4
  replace hy := Lib.hid hy
  replace lt4 := Lib.hid lt4
  replace hNn := Lib.hid hNn
  replace hwhole := Lib.hid hwhole
  replace hnow0 := Lib.hid hnow0
  replace h4 := Lib.hid h4
  replace hb0 := Lib.hid hb0
  replace fine := Lib.hid fine
  replace hXe := Lib.hid hXe
  replace hXn := Lib.hid hXn
  have ka : Only [] w (w.alloc (.cells #[.pointer (some ⟨p, 0, none⟩), .int .u32 0, .bool false] 114)) := (Only.refl [] w).alloc _
  have ba : Blk (w.alloc (.cells #[.pointer (some ⟨p, 0, none⟩), .int .u32 0, .bool false] 114)) w.heap.size 114 #[.pointer (some ⟨p, 0, none⟩), .int .u32 0, .bool false] := Blk.new _ _ _
  obtain ⟨lp, hlp⟩ : ∃ lp, lp = w.heap.size := ⟨_, rfl⟩
  rw [← hlp] at ba
  have hlpG : lp ∉ G := fun hm => by have := hG0 lp hm; omega
  have hlpw : w.heap.size ≤ lp := by omega
  go_enter Tryz.func27, Tryz.ntmps27
  go_wp2_with fail
  simp only [← hlp]
  generalize w.alloc (.cells #[.pointer (some ⟨p, 0, none⟩), .int .u32 0, .bool false] 114) = W at *
  replace hlp := Lib.hid hlp
  replace hG0 := Lib.hid hG0
  refine (hnow0.out W ka).mono ?_
  rintro e w1 ⟨rfl, rfl⟩
  by_cases hm : (blkB s 0).take 4 = lcom
  · have hX := hXe.out hm
    have hnn : openN s = n4 := by rw [hNn.out, if_pos hm]
    replace hm := Lib.hid hm
    have f1 := ba.free 1
    have l1 := ba.cell 1
    simp only [List.getElem?_toArray, List.getElem?_cons_zero, List.getElem?_cons_succ] at l1
    go_wp2_with fail
    refine (h4.out _).mono ?_
    rintro e w2 ⟨rfl, k2⟩
    have ba2 := ba.kept k2 (by simp)
    have f1' := ba2.free 1
    have l1' := ba2.cell 1
    simp only [List.getElem?_toArray, List.getElem?_cons_zero, List.getElem?_cons_succ] at l1'
    have ks : Only [lp] w2 (w2.setCell ⟨lp, 1, none⟩ (.int .u32 y)) := Only.set w2 [lp] (by simp) _
    have hlog3 : RLogB (w2.setCell ⟨lp, 1, none⟩ (.int .u32 y)) lp p (openN s) false := by
      have := Blk.set ba2 1 (.int .u32 y)
      rw [hnn]
      unfold RLogB
      rw [← hy.out]
      simpa using this
    have k03 : Only [] w (w2.setCell ⟨lp, 1, none⟩ (.int .u32 y)) := (ka.trans k2).then ks (by simp; exact hlpw)
    clear f1 l1 ba ba2 ks k2 ka
    go_wp2_with fail
    generalize w2.setCell ⟨lp, 1, none⟩ (.int .u32 y) = w3 at *
    refine (hwhole.out _ k03).mono ?_
    rintro e w4 ⟨hwi, k4⟩
    have k04 := k03.trans k4
    have hlog4 : RLogB w4 lp p (openN s) false := Blk.kept hlog3 k4 (by simp)
    have hd4 := hd.kept k04 (by simp)
    have e1 : openErr s = if openL s = [] then 0 else (settleW s (openL s)).1 := by rw [openErr, if_neg hA, if_neg hB]
    have e2 : openSt s = if openL s = [] then s else (settleW s (openL s)).2 := by rw [openSt, if_neg hA, if_neg hB]
    clear k4 k03 hlog3 f1' l1'
    rcases hwi with ⟨hne, rfl⟩ | ⟨hnil, rfl⟩
    · rw [if_neg hne] at e1 e2
      have hlist : Redoes s (markN (blkB s 0)) (markK (blkB s 0)) ∧ openL s = redoHomes s (markK (blkB s 0)) := by
        unfold openL at hne ⊢
        unfold redoL at hne ⊢
        by_cases hr : Redoes s (markN (blkB s 0)) (markK (blkB s 0))
        · rw [if_pos hr]; exact ⟨hr, rfl⟩
        · rw [if_neg hr] at hne; exact absurd rfl hne
      obtain ⟨hred, hLL⟩ := hlist
      have hkk := hred.1
      have hthere := openL_there fine.out hN42
      generalize markK (blkB s 0) = kk at *
      generalize markN (blkB s 0) = nn at *
      have hlenL : (openL s).length = kk := by rw [hLL, redoHomes_length]
      have hget : ∀ j, j < kk → (openL s)[j]? = some ⟨(num4 (blkB s (1 + j)) 0 : Nat), blkB s (1 + j)⟩ := fun j hj => by
        simp [hLL, redoHomes, hj]
      generalize openL s = L at *
      have hkkI : (kk : Int) ≤ 40 := by omega
      replace hred := Lib.hid hred
      replace hLL := Lib.hid hLL
      replace hthere := Lib.hid hthere
      replace hlenL := Lib.hid hlenL
      replace hget := Lib.hid hget
      replace e1 := Lib.hid e1
      replace e2 := Lib.hid e2
      replace hne := Lib.hid hne
      replace hlog4 := Lib.hid hlog4
      go_wp2_with fail
      go_loopw [8] (fun i wr => ∃ (j : Nat) (sj : St) (Gj : List Nat), j ≤ kk ∧ i = .int .i64 (1 + (j : Int)) ∧ Hid (settleW s L = settleW sj (L.drop j)) ∧ Hid (∀ i, i ≤ 40 → blkB sj i = blkB s i) ∧ sj.firm = s.firm ∧ sj.late.length ≤ s.late.length + j ∧ Ref wr p Gj sj ∧ Only G w4 wr ∧ Hid (∀ i ∈ Gj, (i ∈ G ∨ w4.heap.size ≤ i) ∧ i < wr.heap.size)) (fun i _ => kk + 1 - (intOf i).toNat)
      case atStart => exact ⟨0, s, G, Nat.zero_le _, rfl, by rw [List.drop_zero]; exact rfl, fun i _ => rfl, rfl, by omega, hd4, Only.refl _ _, fun i hi => ⟨.inl hi, by have := hG0.out i hi; have := k04.size; omega⟩⟩
      case round =>
        obtain ⟨j, sj, Gj, hj, rfl, hset, hsame, hfirm, hlatej, hdj, honly, hGj⟩ := hrel
        by_cases hlt : j < kk
        · have hjk : 1 + (j : Int) ≤ (kk : Int) := by omega
          have hr := now_blk wr p Gj sj (1 + j) (by rw [hfirm]; omega) (by omega) hdj
          rw [hsame.out (1 + j) (by omega)] at hr
          rw [show ((1 + j : Nat) : Int) = 1 + (j : Int) by omega] at hr
          have hbl := fine.out.blk (k := 1 + j) (by omega)
          have a0 := fun W => at_any W (blkB s (1 + j)) 0 (by omega) (by omega)
          have l0 := num4_lt (blkB s (1 + j)) 0
          have hgj : L[j]'(by rw [hlenL.out]; exact hlt) = ⟨(num4 (blkB s (1 + j)) 0 : Nat), blkB s (1 + j)⟩ := by
            have h := hget.out j hlt
            rw [List.getElem?_eq_getElem (by rw [hlenL.out]; exact hlt)] at h
            injection h
          have hth := hthere.out (L[j]'(by rw [hlenL.out]; exact hlt)) (List.getElem_mem _)
          rw [hgj] at hth
          have hdr : L.drop j = ⟨(num4 (blkB s (1 + j)) 0 : Nat), blkB s (1 + j)⟩ :: L.drop (j + 1) := by
            rw [List.drop_eq_getElem_cons (by rw [hlenL.out]; exact hlt), hgj]
          have hset2 : settleW s L = if writeErr sj (num4 (blkB s (1 + j)) 0 : Nat) (blkB s (1 + j)) = 0 then settleW (written sj (num4 (blkB s (1 + j)) 0 : Nat) (blkB s (1 + j))) (L.drop (j + 1)) else (writeErr sj (num4 (blkB s (1 + j)) 0 : Nat) (blkB s (1 + j)), written sj (num4 (blkB s (1 + j)) 0 : Nat) (blkB s (1 + j))) := by
            rw [hset.out, hdr, settleW]
          have herr : writeErr sj (num4 (blkB s (1 + j)) 0 : Nat) (blkB s (1 + j)) = 0 ∨ writeErr sj (num4 (blkB s (1 + j)) 0 : Nat) (blkB s (1 + j)) = 5 := by
            rw [writeErr, hfirm]
            rw [if_neg (by
              have h1 := hth.1.1
              simp only at h1
              rw [h1, hbl]
              decide)]
            split
            · exact .inr rfl
            · exact .inl rfl
          have hlatew := written_late sj (num4 (blkB s (1 + j)) 0 : Nat) (blkB s (1 + j))
          have hfirmw := written_firm sj (num4 (blkB s (1 + j)) 0 : Nat) (blkB s (1 + j))
          generalize hBB : blkB s (1 + j) = BB at *
          generalize num4 BB 0 = m0 at *
          obtain ⟨x0, hx0⟩ : ∃ x : Int, x = (m0 : Int) := ⟨_, rfl⟩
          rw [← hx0] at a0 hset2 herr hlatew hfirmw hth
          have x00 : 0 ≤ x0 := by omega
          have x01 : x0 < 4294967296 := by omega
          have hwr := fun W (h : Ref W p Gj sj) => rwrite_any W p Gj sj x0 BB (by omega) (by omega) (by omega) h
          have hx41 : 41 ≤ x0 := hth.2
          have hother := fun i (hi : i ≤ 40) => blkB_other sj x0 BB i (by omega)
          generalize hbs : strOf BB = bs at *
          replace hbs := Lib.hid hbs
          replace hBB := Lib.hid hBB
          replace hx0 := Lib.hid hx0
          replace l0 := Lib.hid l0
          replace hr := Lib.hid hr
          replace a0 := Lib.hid a0
          replace hwr := Lib.hid hwr
          replace hset2 := Lib.hid hset2
          replace hother := Lib.hid hother
          replace hth := Lib.hid hth
          clear hgj
          replace hdr := Lib.hid hdr
          replace hbl := Lib.hid hbl
          have hjI : (j : Int) ≤ 40 := by omega
          go_wp2_with fail
          refine hr.out.mono ?_
          rintro e w5 ⟨rfl, rfl⟩
          go_wp2_with fail
          refine (a0.out _).mono ?_
          rintro e w6 ⟨rfl, k6⟩
          go_wp2_with fail
          refine (hwr.out _ (hdj.kept k6 (by simp))).mono ?_
          rintro e w7 ⟨rfl, G7, hd7, k7, hG7⟩
          have k47 : Only G w4 w7 := (honly.trans (k6.more (by simp))).then k7 (fun i hi => (hGj.out i hi).1)
          have hG7' : Hid (∀ i ∈ G7, (i ∈ G ∨ w4.heap.size ≤ i) ∧ i < w7.heap.size) := fun i hi => ⟨by
            rcases (hG7 i hi).1 with h | h
            · exact (hGj.out i h).1
            · have := honly.size; have := k6.size; exact .inr (by omega), (hG7 i hi).2⟩
          clear hG7 k7 k6 hdj honly hGj
          rcases herr with herr | herr
          · have hset3 := hset2.out
            rw [if_pos herr] at hset3
            have hsame2 : Hid (∀ i, i ≤ 40 → blkB (written sj x0 BB) i = blkB s i) := fun i hi => by rw [hother.out i hi, hsame.out i hi]
            rw [herr]
            replace hset3 := Lib.hid hset3
            replace herr := Lib.hid herr
            go_wp2
            go_roundw
            case rel => exact ⟨j + 1, written sj x0 BB, G7, by omega, by go_num, hset3, hsame2, by rw [hfirmw]; exact hfirm, by omega, hd7, k47, hG7'⟩
            case measure => simp [intOf]; omega
          · have hset3 := hset2.out
            rw [if_neg (by rw [herr]; decide), herr] at hset3
            have hfin : ROpened w w7 p G s (.returned (.tuple #[.pointer none, .int .i64 5])) := ropened_no k04 ⟨G7, by rw [e2.out, hset3]; exact hd7, k47, hG7'.out⟩ (by rw [e1.out, hset3])
            rw [herr]
            replace hset3 := Lib.hid hset3
            replace herr := Lib.hid herr
            replace hfin := Lib.hid hfin
            go_wp2
            go_ret2
            exact hfin.out
        · have hjk : j = kk := by omega
          have hset3 := hset.out
          rw [hjk, ← hlenL.out, List.drop_of_length_le (Nat.le_refl _), settleW] at hset3
          have hge : ¬ 1 + (j : Int) ≤ (kk : Int) := by omega
          replace hset3 := Lib.hid hset3
          clear hset hjk
          go_wp2_with fail
          refine (rbarrier_any wr p Gj sj (by omega) hdj).mono ?_
          rintro e w7 ⟨rfl, hs7⟩
          have hdid : RefDid w4 w7 p G (barred sj) := ⟨Gj, hs7.1, honly.then hs7.2 (fun i hi => (hGj.out i hi).1), fun i hi => ⟨(hGj.out i hi).1, Nat.lt_of_lt_of_le (hGj.out i hi).2 hs7.2.size⟩⟩
          clear hs7 hdj honly hGj
          by_cases hbe : barErr sj = 0
          · have hfin : ROpened w w7 p G s (.returned (.tuple #[.pointer (some ⟨lp, 0, none⟩), .int .i64 0])) := ropened_yes k04 (by rw [e2.out, hset3.out]; exact hdid) (by rw [e1.out, hset3.out]; exact hbe) hlog4.out hlpw hlpG
            rw [hbe]
            replace hbe := Lib.hid hbe
            replace hfin := Lib.hid hfin
            clear hdid
            go_wp2
            go_ret2
            exact hfin.out
          · have hb5 : barErr sj = 5 := by
              unfold barErr at hbe ⊢
              split at hbe
              · rename_i h; rw [if_pos h]
              · exact absurd rfl hbe
            have hfin : ROpened w w7 p G s (.returned (.tuple #[.pointer none, .int .i64 5])) := ropened_no k04 (by rw [e2.out, hset3.out]; exact hdid) (by rw [e1.out, hset3.out]; exact hb5)
            rw [hb5]
            replace hbe := Lib.hid hbe
            replace hb5 := Lib.hid hb5
            replace hfin := Lib.hid hfin
            clear hdid
            go_wp2
            go_ret2
            exact hfin.out
    · rw [if_pos hnil] at e1 e2
      have hfin : ROpened w w4 p G s (.returned (.tuple #[.pointer (some ⟨lp, 0, none⟩), .int .i64 0])) := ropened_yes k04 (by rw [e2]; exact RefSame.did ⟨hd4, Only.refl G w4⟩) e1 hlog4 hlpw hlpG
      replace hfin := Lib.hid hfin
      replace hnil := Lib.hid hnil
      replace e1 := Lib.hid e1
      replace e2 := Lib.hid e2
      clear hd4 hlog4
      go_wp2
      go_ret2
      exact hfin.out
  · have hX := hXn.out hm
    have hnn : openN s = 0 := by rw [hNn.out, if_neg hm]
    have hnil : openL s = [] := by
      unfold openL
      rw [show markK (blkB s 0) = 0 by rw [markK, if_neg hm]]
      exact redoL_zero _ _
    have e1 : openErr s = 0 := by rw [openErr, if_neg hA, if_neg hB, if_pos hnil]
    have e2 : openSt s = s := by rw [openSt, if_neg hA, if_neg hB, if_pos hnil]
    replace hm := Lib.hid hm
    go_wp2_with fail
    refine (hwhole.out _ ka).mono ?_
    rintro e w4 ⟨hwi, k4⟩
    have k04 := ka.trans k4
    have hlog4 : RLogB w4 lp p (openN s) false := by
      rw [hnn]
      exact Blk.kept ba k4 (by simp)
    rcases hwi with ⟨hne, _⟩ | ⟨_, rfl⟩
    · exact absurd hnil hne
    · have hfin : ROpened w w4 p G s (.returned (.tuple #[.pointer (some ⟨lp, 0, none⟩), .int .i64 0])) := ropened_yes k04 (by rw [e2]; exact RefSame.did ⟨hd.kept k04 (by simp), Only.refl G w4⟩) e1 hlog4 hlpw hlpG
      replace hfin := Lib.hid hfin
      replace hnil := Lib.hid hnil
      replace e1 := Lib.hid e1
      replace e2 := Lib.hid e2
      clear hlog4 k4 ba
      go_wp2
      go_ret2
      exact hfin.out

end Go.Proofs.YthpjkhmkjhgbkaaGreatDoor
