/- What the journal has for the home blocks. -/
import Derived.Test.YtihoebmfanelkaaWal4
namespace Go.Proofs.Ytihoebmfanelkaa
open Go.RowKit

/-- A block as it was written last. -/
def blkB (s : St) (k : Nat) : List UInt8 := nowOf (s.firm.getD k []) s.late k
theorem nowOf_len (d : List UInt8) (k : Nat) (hd : d.length = 256) : ∀ l : List (Nat × List UInt8), (∀ x ∈ l, x.2.length = 256) → (nowOf d l k).length = 256 := by
  refine snoc_ind (fun _ => hd) ?_
  intro l x ih h
  rw [nowOf_snoc]
  split
  · exact h x (by simp)
  · exact ih (fun y hy => h y (by simp [hy]))
theorem Fine.blk {s : St} (h : Fine s) {k : Nat} (hk : k < s.firm.length) : (blkB s k).length = 256 :=
  nowOf_len _ k (h.firm _ (List.mem_of_getElem? (getD_get hk _))) _ (fun x hx => (h.late x hx).2)
theorem readB_blk (s : St) (k : Nat) (hk : k < s.firm.length) (hd : s.dead = false) : readB s (k : Int) = blkB s k ∧ readErr s (k : Int) = 0 := by
  have hh : hasBlock s.firm.length (k : Int) = true := by simp only [hasBlock, decide_eq_true_eq]; omega
  simp [readB, readErr, hh, hd, blkB]

/-- The i-th copy is one of commit n. -/
def CopyOk (s : St) (n i : Nat) : Prop := 41 ≤ num4 (blkB s (1 + i)) 0 ∧ num4 (blkB s (1 + i)) 0 < s.firm.length ∧ num4 (blkB s (1 + i)) 4 = n
instance (s : St) (n i : Nat) : Decidable (CopyOk s n i) := by unfold CopyOk; infer_instance
def redoHomes (s : St) (k : Nat) : List Bk := (List.range k).map fun i => ⟨(num4 (blkB s (1 + i)) 0 : Nat), blkB s (1 + i)⟩
theorem redoHomes_length (s : St) (k : Nat) : (redoHomes s k).length = k := by simp [redoHomes]
theorem redoHomes_succ (s : St) (k : Nat) : redoHomes s (k + 1) = redoHomes s k ++ [⟨(num4 (blkB s (1 + k)) 0 : Nat), blkB s (1 + k)⟩] := by
  simp [redoHomes, List.range_succ]
def Redoes (s : St) (n k : Nat) : Prop := k ≤ 40 ∧ ∀ i, i < k → CopyOk s n i
instance (s : St) (n k : Nat) : Decidable (Redoes s n k) := by
  unfold Redoes
  infer_instance
def redoL (s : St) (n k : Nat) : List Bk := if Redoes s n k then redoHomes s k else []

/-- A list, and no error. -/
def ListOk (w w' : World) (e : Ending) (l : List Bk) : Prop := ∃ v, e = .returned (.tuple #[v, .int .i64 0]) ∧ NewList w w' v l
theorem ListOk.nil {w w' : World} {l : List Bk} (k : Only [] w w') (h : l = []) : ListOk w w' (.returned (.tuple #[.slice none 0 0, .int .i64 0])) l :=
  ⟨_, rfl, none, 0, by rw [h]; rfl, ⟨.inl h, by rw [h]; simp⟩, k, by simp⟩

set_option maxRecDepth 100000 in
set_option maxHeartbeats 2000000 in
theorem redo_any (w : World) (p : Nat) (F : List Nat) (s : St) (n kk : Nat) (hn : n < 4294967296) (hkk : kk < 4294967296) (hd : Dev w p F s) (hdead : s.dead = false) (hsize : 42 ≤ s.firm.length) :
    Calls Try.prog 40 #[.pointer (some ⟨p, 0, none⟩), .agg #[.int .u32 (n : Int), .int .u32 (kk : Int)]] w fun e w' => ListOk w w' e (redoL s n kk) := by
  obtain ⟨z, hz⟩ : ∃ z : Int, z = (n : Int) := ⟨_, rfl⟩
  rw [← hz]
  have hz0 : 0 ≤ z := by omega
  have hz1 : z < 4294967296 := by omega
  obtain ⟨W, hW⟩ : ∃ W, W = w.alloc (.cells #[.int .u32 z, .int .u32 (kk : Int)] 91) := ⟨_, rfl⟩
  obtain ⟨q, hq⟩ : ∃ q, q = w.heap.size := ⟨_, rfl⟩
  have kW : Only [] w W := by rw [hW]; exact (Only.refl [] w).alloc _
  have bq : Blk W q 91 #[.int .u32 z, .int .u32 (kk : Int)] := by rw [hW, hq]; exact Blk.new w _ _
  have hqw : w.heap.size ≤ q := by omega
  replace hW := Lib.hid hW
  replace hq := Lib.hid hq
  have kk1 : (kk : Int) < 4294967296 := by omega
  replace hz := Lib.hid hz
  replace hn := Lib.hid hn
  replace hkk := Lib.hid hkk
  by_cases hbig : 40 < kk
  · have hr : redoL s n kk = [] := by unfold redoL; rw [if_neg (fun h => by have := h.1; omega)]
    rw [hr]
    have c1 := bq.cell 1
    simp only [List.getElem?_toArray, List.getElem?_cons_zero, List.getElem?_cons_succ] at c1
    have hb : (40 : Int) < (kk : Int) := by omega
    clear bq
    go_enter Try.func40, Try.ntmps40
    go_wp2_with fail
    rw [← hW.out, ← hq.out]
    go_wp2
    go_ret2
    exact ListOk.nil kW rfl
  have hkk40 : kk ≤ 40 := by omega
  have hnb : ¬ (40 : Int) < (kk : Int) := by omega
  clear kk1
  have kk1 : (kk : Int) ≤ 40 := by omega
  obtain ⟨ti, ht1, ht2, ht3, ht4⟩ := info_parts zero_wwrite
  replace ht1 := Lib.hid ht1
  replace ht2 := Lib.hid ht2
  replace ht3 := Lib.hid ht3
  replace ht4 := Lib.hid ht4
  have c1 := bq.cell 1
  simp only [List.getElem?_toArray, List.getElem?_cons_zero, List.getElem?_cons_succ] at c1
  have hdW := hd.kept kW (by simp)
  have fine := hd.fine
  go_enter Try.func40, Try.ntmps40
  go_wp2_with fail
  rw [← hW.out, ← hq.out]
  go_wp2_with fail
  go_loopw [6, 19] (fun v i wr => ∃ (k : Nat) (vf : Value), k ≤ kk ∧ i = .int .i64 k ∧ vf = v ∧ wr.ownsRow 0 100 2 vf k (wkCells (redoHomes s k)) ∧ Hid (∀ i, i < k → CopyOk s n i) ∧ Only [] W wr ∧ Hid (∀ g, vf.ownBlock = some g → W.heap.size ≤ g)) (fun _ i _ => kk - (intOf i).toNat)
  case atStart => exact ⟨0, _, Nat.zero_le _, rfl, rfl, World.ownsRow_nil _ 0 _ 2, fun i hi => by omega, Only.refl _ _, fun g hg => by simp [Value.ownBlock] at hg⟩
  case round =>
    obtain ⟨k, vf, hk, rfl, hvf, hown, hokk, honly, hnew⟩ := hrel
    subst hvf
    have bqr := bq.kept honly (by simp)
    have d0 := bqr.cell 0
    simp only [List.getElem?_toArray, List.getElem?_cons_zero] at d0
    by_cases hlt : k < kk
    · have hki : 1 + k < s.firm.length := by omega
      obtain ⟨r1, r2⟩ := readB_blk s (1 + k) hki hdead
      have hbl := fine.blk hki
      have hread := read_any wr p F s ((1 + k : Nat) : Int) (hdW.kept honly (by simp))
      rw [r1, r2] at hread
      rw [show (((1 + k : Nat)) : Int) = 1 + (k : Int) by omega] at hread
      have hnew2 : ∀ W, Calls Try.prog 56 #[.string (strOf (blkB s (1 + k)))] W (NewRd2 W (blkB s (1 + k))) := fun W => by
        have := newReader_two W (strOf (blkB s (1 + k))) (by rw [strOf_size]; omega)
        rwa [strOf_list] at this
      have q1 : rNumber (blkB s (1 + k)) 0 = (num4 (blkB s (1 + k)) 0, (blkB s (1 + k)).drop 4, 0) := by
        unfold rNumber
        rw [if_neg (by simp), if_neg (by omega)]
        have := hd4_num4 (blkB s (1 + k)) 0 (by omega)
        rw [List.drop_zero] at this
        rw [this]
      have q2 : rNumber ((blkB s (1 + k)).drop 4) 0 = (num4 (blkB s (1 + k)) 4, ((blkB s (1 + k)).drop 4).drop 4, 0) := by
        unfold rNumber
        rw [if_neg (by simp), if_neg (by simp; omega), hd4_num4 (blkB s (1 + k)) 4 (by omega)]
      have hcop : CopyOk s n k ↔ (41 ≤ num4 (blkB s (1 + k)) 0 ∧ num4 (blkB s (1 + k)) 0 < s.firm.length ∧ num4 (blkB s (1 + k)) 4 = n) := Iff.rfl
      have hsucc := redoHomes_succ s k
      have l0 := num4_lt (blkB s (1 + k)) 0
      have l4 := num4_lt (blkB s (1 + k)) 4
      have hblocks := fun W h => blocks_any W p F s h
      have hfew := fine.few
      clear r1 r2
      generalize hB : blkB s (1 + k) = B at *
      generalize num4 B 0 = m0 at *
      generalize num4 B 4 = m4 at *
      generalize hBs : strOf B = bs at *
      generalize B.drop 4 = B4 at *
      generalize B4.drop 4 = B8 at *
      obtain ⟨y0, hy0⟩ : ∃ y : Int, y = (m0 : Int) := ⟨_, rfl⟩
      obtain ⟨y4, hy4⟩ : ∃ y : Int, y = (m4 : Int) := ⟨_, rfl⟩
      have y00 : 0 ≤ y0 := by omega
      have y01 : y0 < 4294967296 := by omega
      have y40 : 0 ≤ y4 := by omega
      have y41 : y4 < 4294967296 := by omega
      generalize hN : s.firm.length = N at *
      have hwk : wrap64 (1 + (k : Int)) = 1 + (k : Int) := by simp only [wrap64]; omega
      replace q1 := Lib.hid q1
      replace q2 := Lib.hid q2
      replace hcop := Lib.hid hcop
      replace hsucc := Lib.hid hsucc
      replace hBs := Lib.hid hBs
      replace hB := Lib.hid hB
      replace hy0 := Lib.hid hy0
      replace hy4 := Lib.hid hy4
      replace hN := Lib.hid hN
      replace hread := Lib.hid hread
      replace l0 := Lib.hid l0
      replace l4 := Lib.hid l4
      replace hnew2 := Lib.hid hnew2
      replace hblocks := Lib.hid hblocks
      replace hsize := Lib.hid hsize
      replace hbl := Lib.hid hbl
      replace hki := Lib.hid hki
      replace fine := Lib.hid fine
      replace hfew := Lib.hid hfew
      go_wp2_with fail
      refine hread.out.mono ?_
      rintro e w1 ⟨rfl, rfl⟩
      go_wp2_with fail
      refine (hnew2.out _).mono ?_
      rintro e w2 ⟨pr, g, rfl, hrd, hp, hg, k2, hg2⟩
      go_wp2_with fail
      refine (rnum_any _ pr g _ 0 hrd).mono ?_
      rintro e w3 ⟨rfl, hrd3, k3⟩
      rw [q1.out] at hrd3 ⊢
      simp only at hrd3 ⊢
      rw [← hy0.out]
      go_wp2_with fail
      refine (rnum_any _ pr g _ 0 hrd3).mono ?_
      rintro e w4 ⟨rfl, hrd4, k4⟩
      rw [q2.out]
      simp only
      rw [← hy4.out]
      have k14 : Only [] W w4 := (honly.trans k2).then (k3.trans k4) (by simp; have := honly.size; omega)
      have own4 := ownsRow_kept' (ownsRow_kept' hown k2 (by simp)) (k3.trans k4) (fun g hg => by simp; rintro rfl; have := (hown.lt _ hg).2; omega)
      have hd4 := hdW.kept k14 (by simp)
      have bq4 := bq.kept k14 (by simp)
      have e0 := bq4.cell 0
      simp only [List.getElem?_toArray, List.getElem?_cons_zero] at e0
      have hnil : Hid (¬ CopyOk s n k → redoL s n kk = []) := fun h => by
        unfold redoL
        rw [if_neg (fun h' => h (h'.2 k hlt))]
      have k14w : Only [] w w4 := kW.trans k14
      replace hcop := hcop.out
      clear hrd hrd3 hrd4 k2 k3 k4 hown honly bqr bq4 d0 q1 q2
      by_cases t1 : y0 < 41
      · have hno : redoL s n kk = [] := hnil.out (fun h => by rw [hcop] at h; have := hy0.out; omega)
        replace hno := Lib.hid hno
        replace hcop := Lib.hid hcop
        go_wp2
        go_ret2
        exact ListOk.nil k14w hno.out
      by_cases t2 : (N : Int) ≤ y0
      · have hno : redoL s n kk = [] := hnil.out (fun h => by rw [hcop] at h; have := hy0.out; omega)
        replace hno := Lib.hid hno
        replace hcop := Lib.hid hcop
        go_wp2_with fail
        refine (hblocks.out _ hd4).mono ?_
        rintro e w5 ⟨rfl, rfl⟩
        go_wp2
        go_ret2
        exact ListOk.nil k14w hno.out
      by_cases t3 : y4 = z
      · have hyes : CopyOk s n k := by rw [hcop]; have := hy0.out; have := hy4.out; have := hz.out; omega
        have hokk2 : Hid (∀ i, i < k + 1 → CopyOk s n i) := fun i hi => by
          by_cases hik : i = k
          · subst hik; exact hyes
          · exact hokk.out i (by omega)
        subst t3
        replace hcop := Lib.hid hcop
        clear hyes hnil hokk
        go_wp2_with fail
        refine (hblocks.out _ hd4).mono ?_
        rintro e w5 ⟨rfl, rfl⟩
        have news := World.news_of_block (Blk.new w5 100 #[.int .i64 y0, .string bs])
        have k5 : Only [] w5 (w5.alloc (.cells #[.int .i64 y0, .string bs] 100)) := (Only.refl [] w5).alloc _
        have owna := ownsRow_kept' own4 k5 (by simp)
        have hone : ∀ u ∈ [Value.int .i64 y0, .string bs], u.oneCell' = true := by
          intro u hu
          simp at hu
          rcases hu with rfl | rfl <;> rfl
        go_wp2_with (at_builtin; go_must (refine wpList_append_lies _ rfl (.tmp 53) (.tmp 57) 93 rfl 0 100 ti (.agg #[.int .i64 0, .string ⟨#[]⟩]) 2 24 Try.underlying93 ht1.out ht2.out ht3.out ht4.out rfl (by decide) vf k _ rfl owna ⟨w5.heap.size, 0, none⟩ 1 1 [.int .i64 y0, .string bs] rfl rfl news hone (by decide) (by unfold maxLen; omega) (by omega) (Nat.zero_le _) _ rfl ?go))
        case go =>
          intro g5 cp w6 hown5 hgrow hat5 hlt5
          have hg5 : W.heap.size ≤ g5 := by
            rcases hat5 with h | h
            · exact hnew.out g5 h
            · have := k5.size; have := k14.size; omega
          have honly6 : Only [] W w6 := (k14.trans k5).grown hgrow (fun j hj => .inr (hnew.out j hj))
          have hown6 : w6.ownsRow 0 100 2 (.slice (some ⟨g5, 0, none⟩) (k + 1) cp) (k + 1) (wkCells (redoHomes s (k + 1))) := by
            rw [hsucc.out, wkCells_snoc]
            simp only [hBs.out, ← hy0.out]
            exact hown5
          have hnew6 : Hid (∀ g, (Value.slice (some ⟨g5, 0, none⟩) (k + 1) cp).ownBlock = some g → W.heap.size ≤ g) := fun g hg => by
            simp only [Value.ownBlock, Option.some.injEq] at hg
            omega
          replace hown6 := Lib.hid hown6
          clear hown5 hgrow hat5 owna news k5 k14 k14w own4 hd4 e0 bq c1
          go_wp2
          go_roundw
          case rel => exact ⟨k + 1, _, by omega, by go_num, rfl, hown6.out, hokk2, honly6, hnew6⟩
          case measure => simp [intOf]; omega
      · have hno : redoL s n kk = [] := hnil.out (fun h => by rw [hcop] at h; have := hy4.out; have := hz.out; omega)
        have t3' : (y4 != z) = true := by simpa using t3
        replace t3 := Lib.hid t3
        replace hno := Lib.hid hno
        replace hcop := Lib.hid hcop
        go_wp2_with fail
        refine (hblocks.out _ hd4).mono ?_
        rintro e w5 ⟨rfl, rfl⟩
        go_wp2
        go_ret2
        exact ListOk.nil k14w hno.out
    · have hkl : k = kk := by omega
      have hge : (kk : Int) ≤ k := by omega
      have hyes : redoL s n kk = redoHomes s kk := by
        unfold redoL
        rw [if_pos ⟨hkk40, fun i hi => hokk.out i (by omega)⟩]
      have hok : ∀ x ∈ redoHomes s kk, x.okay := by
        intro x hx
        simp only [redoHomes, List.mem_map, List.mem_range] at hx
        obtain ⟨i, hi, rfl⟩ := hx
        have hl := fine.blk (k := 1 + i) (by omega)
        have hn4 := num4_lt (blkB s (1 + i)) 0
        refine ⟨⟨by simp only; omega, by simp only; omega⟩, by simp only; omega⟩
      have hfin : NewList W wr vf (redoHomes s kk) := by
        refine blks_of_owns (e := 100) ?_ hok honly hnew.out
        rw [redoHomes_length, ← hkl]
        exact hown
      have hfin2 : ListOk w wr (.returned (.tuple #[vf, .int .i64 0])) (redoL s n kk) := by
        rw [hyes]
        obtain ⟨A, c, h1, h2, h3, h4⟩ := hfin
        exact ⟨_, rfl, A, c, h1, h2, kW.trans h3, fun a ha => Nat.le_trans kW.size (h4 a ha)⟩
      replace hfin2 := Lib.hid hfin2
      clear hown hok hyes hfin fine
      go_wp2
      go_ret2
      exact hfin2.out

end Go.Proofs.Ytihoebmfanelkaa
