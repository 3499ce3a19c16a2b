/- A mark's block. -/
import Derived.Test.YtihoebmfanelkaaWal1
namespace Go.Proofs.Ytihoebmfanelkaa
open Go.RowKit

/-- A mark's bytes. -/
def markL (n k : Nat) : List UInt8 := fillL (lcom ++ (be4 n ++ be4 k))
theorem block_any (w : World) (n k : Nat) (hn : n < 4294967296) (hk : k < 4294967296) :
    Calls Try.prog 45 #[.agg #[.int .u32 (n : Int), .int .u32 (k : Int)]] w fun e w' => e = .returned (.string (strOf (markL n k))) ∧ Only [] w w' := by
  have hn' : (n : Int) < 4294967296 := by omega
  have hk' : (k : Int) < 4294967296 := by omega
  obtain ⟨x, hx⟩ : ∃ x : Int, x = (n : Int) := ⟨_, rfl⟩
  obtain ⟨y, hy⟩ : ∃ y : Int, y = (k : Int) := ⟨_, rfl⟩
  rw [← hx] at hn' ⊢
  rw [← hy] at hk' ⊢
  have x0 : 0 ≤ x := by omega
  have y0 : 0 ≤ y := by omega
  replace hx := Lib.hid hx
  replace hy := Lib.hid hy
  replace hn := Lib.hid hn
  replace hk := Lib.hid hk
  go_enter Try.func45, Try.ntmps45
  go_wp2_with fail
  have kW : Only [] w (w.alloc (.cells #[.int .u32 x, .int .u32 y] 91)) := (Only.refl [] w).alloc _
  have bm : Blk (w.alloc (.cells #[.int .u32 x, .int .u32 y] 91)) w.heap.size 91 #[.int .u32 x, .int .u32 y] := Blk.new w _ _
  generalize hW : w.alloc (.cells #[.int .u32 x, .int .u32 y] 91) = W at *
  replace hW := Lib.hid hW
  have hmW : w.heap.size < W.heap.size := bm.lt
  obtain ⟨m, hm⟩ : ∃ m, m = w.heap.size := ⟨_, rfl⟩
  rw [← hm] at bm hmW
  have kV : Only [] W (W.alloc (.cells #[.slice none 0 0] 113)) := (Only.refl [] W).alloc _
  have hwr : Wr (W.alloc (.cells #[.slice none 0 0] 113)) W.heap.size [] [] := ⟨_, Blk.new W _ _, World.ownsRow_nil _ 0 _ 1, by simp [Value.ownBlock], by simp [Value.ownBlock]⟩
  generalize hV : W.alloc (.cells #[.slice none 0 0] 113) = V at *
  replace hV := Lib.hid hV
  obtain ⟨p, hp⟩ : ∃ p, p = W.heap.size := ⟨_, rfl⟩
  rw [← hp] at hwr
  have hp1 : w.heap.size + 1 = p := by rw [hp, ← hW.out]; simp
  rw [hp1]
  simp only [← hm]
  clear hp1
  have bmV := bm.kept kV (by simp)
  have hmp : m ≠ p := by omega
  have hwm : w.heap.size ≤ m := by omega
  have hwp : w.heap.size ≤ p := by omega
  have hpV := hwr.lt
  have hWp : W.heap.size ≤ p := by omega
  replace hm := Lib.hid hm
  replace hp := Lib.hid hp
  have c0 := bmV.cell 0
  simp only [List.getElem?_toArray, List.getElem?_cons_zero] at c0
  go_wp2_with fail
  refine (wnumber_any _ p [] [] x n hx.out hn.out hwr (by simp)).mono ?_
  rintro e w1 ⟨rfl, F1, h1, k1, f1⟩
  have bm1 := bmV.kept k1 (by simp; exact hmp)
  have c1 := bm1.cell 1
  simp only [List.getElem?_toArray, List.getElem?_cons_zero, List.getElem?_cons_succ] at c1
  go_wp2_with fail
  refine (wnumber_any _ p F1 _ y k hy.out hk.out h1 (by simp [be4_length])).mono ?_
  rintro e w2 ⟨rfl, F2, h2, k2, f2⟩
  go_wp2_with fail
  refine (bytes_any _ p F2 _ h2).mono ?_
  rintro e w3 ⟨rfl, rfl⟩
  go_wp2_with (refine wpList_concat _ rfl 9 9 (.const (.string ⟨#[76, 67, 79, 77]⟩)) (.tmp 10) rfl lcom ([] ++ be4 n ++ be4 k) rfl rfl (by simp [lcom, be4_length]) ?_)
  refine (filled_any _ _ (by simp [lcom, be4_length])).mono ?_
  rintro e w4 ⟨rfl, k4⟩
  have kend : Only [] w w4 := by
    have a1 : Only [] w V := kW.trans kV
    have a2 := a1.then k1 (by simp; exact hwp)
    have a3 := a2.then k2 (fun i hi => by
      rcases List.mem_cons.1 hi with rfl | hi
      · exact .inr hwp
      · rcases f1 i hi with h | h
        · cases h
        · exact .inr (by omega))
    exact a3.trans k4
  replace kend := Lib.hid kend
  clear h1 h2 k1 k2 k4 hwr bm bmV bm1 f1 f2
  go_wp2
  go_ret
  exact ⟨by simp [markL], kend.out⟩

end Go.Proofs.Ytihoebmfanelkaa
