/- numbers, texts: where a packet's fields lie. -/
import Derived.Test.YtjnbajpckohnnaaTab9
import Derived.Test.YtjnbajpckohnnaaChecked
import Derived.Tactics
import Derived.Tactics2
import Derived.StillTactics
import Derived.StillTailTactics
import Derived.RegionTactic
import Derived.WalkKit
import Derived.WalkLawsBesides
import Derived.WalkSpells
import Derived.Outline
import Derived.Laws.Pointers
import Derived.Laws.Small
import Derived.Laws.Build
import Derived.Laws.Cover3
import Derived.Laws.StructEq
import Derived.KernelRfl
import Derived.Lib.Hide
import Derived.BigQuiet
import Derived.BigRegion
import Derived.OwnWalk
import Derived.LoopTactic
import Derived.Laws.ResultCell
namespace Go.Proofs.Ytjnbajpckohnnaa
open Go.RowKit

set_option maxHeartbeats 1000000 in
theorem texts_any (w : World) (g : Nat) : Calls Try.prog 17 #[.pointer (some ⟨g, 0, none⟩)] w fun e w' => e = .returned (textsV g) ∧ Only [] w w' := by
  unfold textsV
  go_enter Try.func17, Try.ntmps17
  go_wp2
  go_still_tail 13, (by kernel_rfl)
  have hb := Blk.new w 55 #[.pointer none, .int .i64 0, .pointer none, .int .i64 0, .pointer none, .int .i64 0]
  have kd : Only [] w (w.alloc (.cells #[.pointer none, .int .i64 0, .pointer none, .int .i64 0, .pointer none, .int .i64 0] 55)).drew := ((Only.refl [] w).alloc _).drew
  change wpList _ _ _ _ _ (World.drew _)
  replace hb := hb.kept ((Only.refl [] _).drew) (by simp)
  generalize (w.alloc (.cells #[.pointer none, .int .i64 0, .pointer none, .int .i64 0, .pointer none, .int .i64 0] 55)).drew = wd at *
  have c0 := hb.cell 0
  have c1 := hb.cell 1
  have c2 := hb.cell 2
  have c3 := hb.cell 3
  have c4 := hb.cell 4
  have c5 := hb.cell 5
  have f0 := hb.free 0
  have f1 := hb.free 1
  have f2 := hb.free 2
  have f3 := hb.free 3
  have f4 := hb.free 4
  have f5 := hb.free 5
  simp only [List.getElem?_toArray, List.getElem?_cons_zero, List.getElem?_cons_succ] at c0 c1 c2 c3 c4 c5
  clear hb
  go_wp2
  refine bodyPost_ret (v := .agg #[.pointer (some ⟨g, 17, none⟩), .int .i64 64, .pointer (some ⟨g, 18, none⟩), .int .i64 64, .pointer (some ⟨g, 19, none⟩), .int .i64 128]) (by rw [results_cell rfl]; go_simp) rfl ?_
  refine ⟨rfl, ?_⟩
  iterate 6 refine Only.setCell ?_ (.inr (Nat.le_refl _)) _
  exact kd

set_option maxHeartbeats 1000000 in
theorem numbers_any (w : World) (g h : Nat) : Calls Try.prog 15 #[.pointer (some ⟨g, 0, none⟩), .pointer (some ⟨h, 0, none⟩)] w fun e w' => e = .returned (numsV g h) ∧ Only [] w w' := by
  unfold numsV
  go_enter Try.func15, Try.ntmps15
  go_wp2
  go_still_tail 52, (by kernel_rfl)
  have hb := Blk.new w 47 #[.pointer none, .pointer none, .pointer none, .pointer none, .pointer none, .pointer none, .pointer none, .pointer none, .pointer none, .pointer none, .pointer none, .pointer none, .pointer none, .pointer none, .pointer none, .pointer none, .pointer none]
  have kd : Only [] w (w.alloc (.cells #[.pointer none, .pointer none, .pointer none, .pointer none, .pointer none, .pointer none, .pointer none, .pointer none, .pointer none, .pointer none, .pointer none, .pointer none, .pointer none, .pointer none, .pointer none, .pointer none, .pointer none] 47)).drew := ((Only.refl [] w).alloc _).drew
  change wpList _ _ _ _ _ (World.drew _)
  replace hb := hb.kept ((Only.refl [] _).drew) (by simp)
  generalize (w.alloc (.cells #[.pointer none, .pointer none, .pointer none, .pointer none, .pointer none, .pointer none, .pointer none, .pointer none, .pointer none, .pointer none, .pointer none, .pointer none, .pointer none, .pointer none, .pointer none, .pointer none, .pointer none] 47)).drew = wd at *
  have c0 := hb.cell 0
  have f0 := hb.free 0
  have c1 := hb.cell 1
  have f1 := hb.free 1
  have c2 := hb.cell 2
  have f2 := hb.free 2
  have c3 := hb.cell 3
  have f3 := hb.free 3
  have c4 := hb.cell 4
  have f4 := hb.free 4
  have c5 := hb.cell 5
  have f5 := hb.free 5
  have c6 := hb.cell 6
  have f6 := hb.free 6
  have c7 := hb.cell 7
  have f7 := hb.free 7
  have c8 := hb.cell 8
  have f8 := hb.free 8
  have c9 := hb.cell 9
  have f9 := hb.free 9
  have c10 := hb.cell 10
  have f10 := hb.free 10
  have c11 := hb.cell 11
  have f11 := hb.free 11
  have c12 := hb.cell 12
  have f12 := hb.free 12
  have c13 := hb.cell 13
  have f13 := hb.free 13
  have c14 := hb.cell 14
  have f14 := hb.free 14
  have c15 := hb.cell 15
  have f15 := hb.free 15
  have c16 := hb.cell 16
  have f16 := hb.free 16
  simp only [List.getElem?_toArray, List.getElem?_cons_zero, List.getElem?_cons_succ] at c0 c1 c2 c3 c4 c5 c6 c7 c8 c9 c10 c11 c12 c13 c14 c15 c16
  clear hb
  go_wp2
  refine bodyPost_ret (v := numsV g h) (by rw [results_cell rfl]; unfold numsV; go_simp) rfl ?_
  unfold numsV
  refine ⟨rfl, ?_⟩
  iterate 17 refine Only.setCell ?_ (.inr (Nat.le_refl _)) _
  exact kd


end Go.Proofs.Ytjnbajpckohnnaa
