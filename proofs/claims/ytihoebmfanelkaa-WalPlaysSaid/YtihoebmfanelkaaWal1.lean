/- Package wal's small functions: filled, a mark's block, the mark that a block is. -/
import Derived.Test.YtihoebmfanelkaaXdr
import Derived.Test.YtihoebmfanelkaaShelf
import Derived.Test.YtihoebmfanelkaaBlks
namespace Go.Proofs.Ytihoebmfanelkaa
open Go.RowKit

theorem hd4_num4 (l : List UInt8) (i : Nat) (h : i + 4 ≤ l.length) : hd4 (l.drop i) = num4 l i := by
  obtain ⟨a, b, c, d, r, hr⟩ := four (l.drop i) (by simp; omega)
  have e : ∀ j, l.getD (i + j) 0 = (l.drop i).getD j 0 := by
    intro j
    rw [List.getD_eq_getElem?_getD, List.getD_eq_getElem?_getD, List.getElem?_drop]
  unfold num4
  rw [show l.getD i 0 = l.getD (i + 0) 0 by rfl, e 0, e 1, e 2, e 3, hr]
  simp [hd4, decB]

theorem repeat_zero (c : Nat) : Lib.repeatL [0] c = rep c 0 := by
  have := Lib.repeatL_replicate 0 1 c
  simpa [rep] using this

theorem filled_any (w : World) (l : List UInt8) (hl : l.length ≤ 256) :
    Calls Try.prog 61 #[.string (strOf l)] w fun e w' => e = .returned (.string (strOf (fillL l))) ∧ Only [] w w' := by
  have hsz : (strOf l).size = l.length := strOf_size l
  have hrep : ∀ W, Calls Try.prog 73 #[.string ⟨#[0]⟩, .int .i64 ((256 - l.length : Nat) : Int)] W fun e w' => e = .returned (.string (strOf (rep (256 - l.length) 0))) ∧ Below W.heap.size W w' := by
    intro W
    have := Try.strings_Repeat ⟨#[0]⟩ (256 - l.length) W (by omega) (by simp [ByteArray.size]; omega)
    have e : (⟨(Lib.repeatL (⟨#[0]⟩ : ByteArray).data.toList (256 - l.length)).toArray⟩ : ByteArray) = strOf (rep (256 - l.length) 0) := by
      rw [← repeat_zero]
      rfl
    rw [e] at this
    exact this
  generalize h0 : strOf l = s at *
  replace h0 := Lib.hid h0
  generalize hc : 256 - l.length = c at *
  have hcl : l.length + c = 256 := by omega
  have hfill : fillL l = l ++ rep c 0 := by rw [fillL, hc]
  rw [hfill]
  clear hfill hc
  go_enter Try.func61, Try.ntmps61
  go_wp2_with fail
  rw [show (256 - (l.length : Int)) = (c : Int) by omega]
  refine (hrep _).mono ?_
  rintro e w1 ⟨rfl, h1⟩
  have k1 := Only.of_below h1 []
  go_wp2_with (refine wpList_concat _ rfl 9 9 (.tmp 3) (.tmp 7) rfl l (rep c 0) (by simp [h0.out]; rfl) rfl (by rw [rep_length]; omega) ?_)
  go_ret
  exact ⟨rfl, k1⟩


def lcom : List UInt8 := [76, 67, 79, 77]
/-- The number, and the count, of the mark that a block is; nought: it is none. -/
def markN (b : List UInt8) : Nat := if b.take 4 = lcom then num4 b 4 else 0
def markK (b : List UInt8) : Nat := if b.take 4 = lcom then num4 b 8 else 0
theorem markN_lt (b : List UInt8) : markN b < 4294967296 := by
  unfold markN
  split
  · exact num4_lt _ _
  · omega
theorem markK_lt (b : List UInt8) : markK b < 4294967296 := by
  unfold markK
  split
  · exact num4_lt _ _
  · omega
theorem prefix_lcom (b : List UInt8) : Lib.hasPrefix b lcom = decide (b.take 4 = lcom) := by
  unfold Lib.hasPrefix
  rw [Bool.eq_iff_iff, decide_eq_true_iff]
  simp only [List.isPrefixOf_iff_prefix, List.prefix_iff_eq_take]
  exact ⟨fun h => h.symm, fun h => h.symm⟩

theorem results_cell {fn : Func} {p : Tmp} {ty : TypeId} (h : fn.results = #[.cell p ty]) (tmps : Array Value) (P : Program) (w : World) :
    (results fn tmps).run P w = ((asAddr (tmps.getD p undef)).run P w).andThen fun a w₁ => (loadVar ty a).run P w₁ := by
  simp only [results, h]
  simp [Sem.run_bind, Result.andThen]

set_option maxRecDepth 100000 in
theorem markOf_any (w : World) (b : List UInt8) (hl : b.length = 256) :
    Calls Try.prog 39 #[.string (strOf b)] w fun e w' => e = .returned (.agg #[.int .u32 (markN b : Int), .int .u32 (markK b : Int)]) ∧ Only [] w w' := by
  have hpre : ∀ W, Calls Try.prog 55 #[.string (strOf b), .string ⟨#[76, 67, 79, 77]⟩] W fun e w' => e = .returned (.bool (decide (b.take 4 = lcom))) ∧ w' = W := by
    intro W
    have := Try.strings_HasPrefix (strOf b) ⟨#[76, 67, 79, 77]⟩ W
    rw [← prefix_lcom]
    rw [strOf_list] at this
    exact this
  by_cases hm : b.take 4 = lcom
  · have e1 : markN b = num4 b 4 := by rw [markN, if_pos hm]
    have e2 : markK b = num4 b 8 := by rw [markK, if_pos hm]
    simp only [hm, decide_true] at hpre
    have hn4 : hd4 (b.drop 4) = num4 b 4 := hd4_num4 b 4 (by omega)
    have hn8 : hd4 (b.drop 8) = num4 b 8 := hd4_num4 b 8 (by omega)
    have l4 : num4 b 4 < 4294967296 := num4_lt _ _
    have l8 : num4 b 8 < 4294967296 := num4_lt _ _
    rw [e1, e2]
    have r1 : rNumber (b.drop 4) 0 = (num4 b 4, b.drop 8, 0) := by
      unfold rNumber
      rw [if_neg (by simp), if_neg (by simp; omega), hn4, List.drop_drop]
    have r2 : rNumber (b.drop 8) 0 = (num4 b 8, b.drop 12, 0) := by
      unfold rNumber
      rw [if_neg (by simp), if_neg (by simp; omega), hn8, List.drop_drop]
    have hfrom := from_strOf (P := Try.prog) 9 Try.underlying9 b 4 4 .i64 rfl (by omega)
    have hnew : ∀ W, Calls Try.prog 56 #[.string (strOf (b.drop 4))] W (NewRd2 W (b.drop 4)) := fun W => by
      have := newReader_two W (strOf (b.drop 4)) (by rw [strOf_size]; simp; omega)
      rwa [strOf_list] at this
    clear hn4 hn8 hm e1 e2
    generalize num4 b 4 = n4 at *
    generalize num4 b 8 = n8 at *
    generalize hs4 : strOf (b.drop 4) = s4 at *
    generalize hs : strOf b = s at *
    generalize b.drop 4 = b4 at *
    generalize b.drop 8 = b8 at *
    generalize b.drop 12 = b12 at *
    clear hs hs4 hl
    have i4 : ((n4 : Nat) : Int) < 4294967296 := by omega
    have i8 : ((n8 : Nat) : Int) < 4294967296 := by omega
    clear l4 l8
    generalize hz4 : ((n4 : Nat) : Int) = z4 at *
    generalize hz8 : ((n8 : Nat) : Int) = z8 at *
    have z40 : 0 ≤ z4 := by omega
    have z80 : 0 ≤ z8 := by omega
    replace hz4 := Lib.hid hz4
    replace hz8 := Lib.hid hz8
    replace r1 := Lib.hid r1
    replace r2 := Lib.hid r2
    go_enter Try.func39, Try.ntmps39
    go_wp2_with fail
    obtain ⟨W, hW⟩ : ∃ W, W = w.alloc (.cells #[.int .u32 0, .int .u32 0] 91) := ⟨_, rfl⟩
    obtain ⟨q, hq⟩ : ∃ q, q = w.heap.size := ⟨_, rfl⟩
    have kW : Only [] w W := by rw [hW]; exact (Only.refl [] w).alloc _
    have bq : Blk W q 91 #[.int .u32 0, .int .u32 0] := by rw [hW, hq]; exact Blk.new w _ _
    have hqW : q < W.heap.size := bq.lt
    have hqw : w.heap.size ≤ q := by omega
    rw [← hW, ← hq]
    replace hW := Lib.hid hW
    replace hq := Lib.hid hq
    refine (hpre _).mono ?_
    rintro e w1 ⟨rfl, rfl⟩
    go_wp2_with fail
    refine (hnew _).mono ?_
    rintro e w2 ⟨p, g, rfl, hrd, hp, hg, k2, hg2⟩
    go_wp2_with fail
    refine (rnum_any _ p g _ 0 hrd).mono ?_
    rintro e w3 ⟨rfl, hrd3, k3⟩
    rw [r1.out] at hrd3 ⊢
    simp only at hrd3 ⊢
    rw [hz4.out]
    go_wp2_with fail
    refine (rnum_any _ p g _ 0 hrd3).mono ?_
    rintro e w4 ⟨rfl, hrd4, k4⟩
    rw [r2.out]
    simp only
    rw [hz8.out]
    have bq4 := ((bq.kept k2 (by simp)).kept k3 (by simp; omega)).kept k4 (by simp; omega)
    have k14 : Only [] w w4 := ((kW.trans k2).then k3 (by simp; omega)).then k4 (by simp; omega)
    clear hrd hrd3 hrd4 k3 k4 k2
    have f0 := bq4.free 0
    have f1 := bq4.free 1
    have c0 := bq4.cell 0
    have c1 := bq4.cell 1
    simp only [List.getElem?_toArray, List.getElem?_cons_zero, List.getElem?_cons_succ] at c0 c1
    have kend : Only [] w ((w4.setCell ⟨q, 0, none⟩ (.int .u32 z4)).setCell ⟨q, 1, none⟩ (.int .u32 z8)) := (k14.setCell (.inr hqw) _).setCell (.inr hqw) _
    replace kend := Lib.hid kend
    clear bq4 bq k14 kW
    go_wp2
    refine bodyPost_ret (v := .agg #[.int .u32 z4, .int .u32 z8]) (by rw [results_cell rfl]; go_simp) rfl ?_
    exact ⟨rfl, kend.out⟩
  · have e1 : markN b = 0 := by rw [markN, if_neg hm]
    have e2 : markK b = 0 := by rw [markK, if_neg hm]
    simp only [hm, decide_false] at hpre
    rw [e1, e2]
    generalize strOf b = s at *
    go_enter Try.func39, Try.ntmps39
    go_wp2_with fail
    obtain ⟨W, hW⟩ : ∃ W, W = w.alloc (.cells #[.int .u32 0, .int .u32 0] 91) := ⟨_, rfl⟩
    obtain ⟨q, hq⟩ : ∃ q, q = w.heap.size := ⟨_, rfl⟩
    have kW : Only [] w W := by rw [hW]; exact (Only.refl [] w).alloc _
    have bq : Blk W q 91 #[.int .u32 0, .int .u32 0] := by rw [hW, hq]; exact Blk.new w _ _
    have hqw : w.heap.size ≤ q := by omega
    rw [← hW, ← hq]
    replace hW := Lib.hid hW
    replace hq := Lib.hid hq
    refine (hpre _).mono ?_
    rintro e w1 ⟨rfl, rfl⟩
    have f0 := bq.free 0
    have f1 := bq.free 1
    have c0 := bq.cell 0
    have c1 := bq.cell 1
    simp only [List.getElem?_toArray, List.getElem?_cons_zero, List.getElem?_cons_succ] at c0 c1
    have kend : Only [] w ((w1.setCell ⟨q, 0, none⟩ (.int .u32 0)).setCell ⟨q, 1, none⟩ (.int .u32 0)) := (kW.setCell (.inr hqw) _).setCell (.inr hqw) _
    replace kend := Lib.hid kend
    clear bq kW
    go_wp2
    refine bodyPost_ret (v := .agg #[.int .u32 0, .int .u32 0]) (by rw [results_cell rfl]; go_simp) rfl ?_
    exact ⟨rfl, kend.out⟩

end Go.Proofs.Ytihoebmfanelkaa
