/- The walk of put. -/
import Derived.Test.YtjnbajpckohnnaaFun9
import Derived.Test.YtjnbajpckohnnaaMem9
import Derived.Test.YtjnbajpckohnnaaChecked
import Derived.Tactics
import Derived.Tactics2
import Derived.StillTactics
import Derived.StillTailTactics
import Derived.RegionTactic
import Derived.WalkKit
import Derived.WalkLawsBesides
import Derived.WalkSpells
import Derived.Outline
import Derived.Laws.Pointers
import Derived.Laws.Small
import Derived.Laws.Build
import Derived.Laws.Cover3
import Derived.Laws.StructEq
import Derived.KernelRfl
import Derived.Lib.Hide
import Derived.BigQuiet
import Derived.BigRegion
import Derived.OwnWalk
import Derived.LoopTactic
import Derived.Laws.ResultCell
namespace Go.Proofs.Ytjnbajpckohnnaa
open Go.RowKit

/-- The whole numbers of a packet, by its numbers. -/
def aZ (z : Nat → Int) : Nat → Int
  | 0 => z 0
  | 1 => z 1
  | 2 => z 2
  | 3 => z 7
  | _ => z 8
set_option maxHeartbeats 2000000 in
theorem put9_any (w : World) (g : Nat) (z : Nat → Int) (s : Nat → ByteArray) (h0 : U (z 0)) (h1 : U (z 1)) (h2 : U (z 2)) (h7 : U (z 7)) (h8 : U (z 8)) (hb : Blk w g 27 (pC (fun _ => 0) z s)) :
    Calls Try.prog 28 #[.agg (cC z), .pointer (some ⟨g, 0, none⟩)] w fun e w' => e = .returned (.tuple #[]) ∧ Blk w' g 27 (pC (aZ z) z s) ∧ Only [g] w w' := by
  replace h0 := wrap_i h0
  replace h1 := wrap_i h1
  replace h2 := wrap_i h2
  replace h7 := wrap_i h7
  replace h8 := wrap_i h8
  have hne : g ≠ w.heap.size := by have := hb.lt; omega
  have hne' : w.heap.size ≠ g := fun e => hne e.symm
  have hx := hb.alloc (.cells #[.int .u32 (z 0), .int .u32 (z 1), .int .u32 (z 2), .int .u32 (z 7), .int .u32 (z 8)] 44)
  have hn := Blk.new w 44 #[.int .u32 (z 0), .int .u32 (z 1), .int .u32 (z 2), .int .u32 (z 7), .int .u32 (z 8)]
  have kw := (Only.refl [g] w).alloc (.cells #[.int .u32 (z 0), .int .u32 (z 1), .int .u32 (z 2), .int .u32 (z 7), .int .u32 (z 8)] 44)
  have v0 := hn.cell 0
  have v1 := hn.cell 1
  have v2 := hn.cell 2
  have v3 := hn.cell 3
  have v4 := hn.cell 4
  have c0 := hx.cell 0
  have c1 := hx.cell 1
  have c2 := hx.cell 2
  have c7 := hx.cell 7
  have c8 := hx.cell 8
  have f0 := hx.free 0
  have f1 := hx.free 1
  have f2 := hx.free 2
  have f7 := hx.free 7
  have f8 := hx.free 8
  simp only [pC, List.getElem?_toArray, List.getElem?_cons_zero, List.getElem?_cons_succ] at v0 v1 v2 v3 v4 c0 c1 c2 c7 c8
  obtain ⟨W, hW⟩ : ∃ W, W = w.alloc (.cells #[.int .u32 (z 0), .int .u32 (z 1), .int .u32 (z 2), .int .u32 (z 7), .int .u32 (z 8)] 44) := ⟨_, rfl⟩
  rw [← hW] at hx kw v0 v1 v2 v3 v4 c0 c1 c2 c7 c8 f0 f1 f2 f7 f8
  replace hW := Lib.hid hW
  replace hx := Lib.hid hx
  replace kw := Lib.hid kw
  clear hb hn
  go_enter Try.func28, Try.ntmps28
  go_wp2
  unfold cC
  rw [← hW.out]
  go_region
  have hy : Blk (((W.setCell ⟨g, 0, none⟩ (.int .i64 (z 0))).setCell ⟨g, 1, none⟩ (.int .i64 (z 1))).setCell ⟨g, 2, none⟩ (.int .i64 (z 2))).drew g 27 (pC (fun | 0 => z 0 | 1 => z 1 | 2 => z 2 | _ => 0) z s) := (((hx.out.set 0 (.int .i64 (z 0))).set 1 (.int .i64 (z 1))).set 2 (.int .i64 (z 2))).kept (Only.refl [] _).drew (by simp)
  have ky : Only [g] W (((W.setCell ⟨g, 0, none⟩ (.int .i64 (z 0))).setCell ⟨g, 1, none⟩ (.int .i64 (z 1))).setCell ⟨g, 2, none⟩ (.int .i64 (z 2))).drew := ((((Only.refl [g] W).setCell (.inl (by simp)) _).setCell (.inl (by simp)) _).setCell (.inl (by simp)) _).drew
  obtain ⟨W2, hW2⟩ : ∃ W2, W2 = (((W.setCell ⟨g, 0, none⟩ (.int .i64 (z 0))).setCell ⟨g, 1, none⟩ (.int .i64 (z 1))).setCell ⟨g, 2, none⟩ (.int .i64 (z 2))).drew := ⟨_, rfl⟩
  rw [← hW2] at hy ky
  rw [← hW2]
  replace hW2 := Lib.hid hW2
  replace v3 := ky.cell v3 (by simpa using hne')
  replace v4 := ky.cell v4 (by simpa using hne')
  clear v0 v1 v2 c0 c1 c2 c7 c8 f0 f1 f2 f7 f8 h0 h1 h2
  have c7 := hy.cell 7
  have c8 := hy.cell 8
  have f7 := hy.free 7
  have f8 := hy.free 8
  simp only [pC, List.getElem?_toArray, List.getElem?_cons_zero, List.getElem?_cons_succ] at c7 c8
  replace hy := Lib.hid hy
  replace ky := Lib.hid ky
  go_wp2
  go_region
  have hz : Blk ((W2.setCell ⟨g, 7, none⟩ (.int .i64 (z 7))).setCell ⟨g, 8, none⟩ (.int .i64 (z 8))).drew g 27 (pC (aZ z) z s) := ((hy.out.set 7 (.int .i64 (z 7))).set 8 (.int .i64 (z 8))).kept (Only.refl [] _).drew (by simp)
  have kz := ((((kw.out.trans ky.out).setCell (p := ⟨g, 7, none⟩) (.inl (by simp)) (.int .i64 (z 7))).setCell (p := ⟨g, 8, none⟩) (.inl (by simp)) (.int .i64 (z 8)))).drew
  obtain ⟨W3, hW3⟩ : ∃ W3, W3 = ((W2.setCell ⟨g, 7, none⟩ (.int .i64 (z 7))).setCell ⟨g, 8, none⟩ (.int .i64 (z 8))).drew := ⟨_, rfl⟩
  rw [← hW3] at hz kz
  rw [← hW3]
  replace hW3 := Lib.hid hW3
  replace hz := Lib.hid hz
  replace kz := Lib.hid kz
  go_wp2
  go_end0
  exact ⟨rfl, hz.out, kz.out⟩

end Go.Proofs.Ytjnbajpckohnnaa
