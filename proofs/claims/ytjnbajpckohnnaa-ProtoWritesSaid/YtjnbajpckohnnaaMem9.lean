/- A boxed packet's cells. -/
import Derived.Test.YtjnbajpckohnnaaTab9
import Derived.Test.YtjnbajpckohnnaaChecked
import Derived.Tactics
import Derived.Tactics2
import Derived.StillTactics
import Derived.StillTailTactics
import Derived.RegionTactic
import Derived.WalkKit
import Derived.WalkLawsBesides
import Derived.WalkSpells
import Derived.Outline
import Derived.Laws.Pointers
import Derived.Laws.Small
import Derived.Laws.Build
import Derived.Laws.Cover3
import Derived.Laws.StructEq
import Derived.KernelRfl
import Derived.Lib.Hide
import Derived.BigQuiet
import Derived.BigRegion
import Derived.OwnWalk
import Derived.LoopTactic
import Derived.Laws.ResultCell
namespace Go.Proofs.Ytjnbajpckohnnaa
open Go.RowKit

theorem pk_text {w : World} {g : Nat} {p : Pk} (b : Blk w g 27 (pkA p)) (j : Nat) (hj : j < 3) : w.cell? ⟨g, 17 + j, none⟩ = some (.string (sOf p j)) := by
  match j, hj with
  | 0, _ => exact b.cell 17
  | 1, _ => exact b.cell 18
  | 2, _ => exact b.cell 19
theorem pk_cells {w : World} {g : Nat} {p : Pk} (b : Blk w g 27 (pkA p)) :
    w.cell? ⟨g, 0, none⟩ = some (.int .i64 p.kind) ∧ w.cell? ⟨g, 1, none⟩ = some (.int .i64 p.frm) ∧ w.cell? ⟨g, 2, none⟩ = some (.int .i64 p.to) ∧ w.cell? ⟨g, 3, none⟩ = some (.int .u32 p.life) ∧ w.cell? ⟨g, 4, none⟩ = some (.int .u32 p.seq) ∧ w.cell? ⟨g, 5, none⟩ = some (.int .u32 p.asked) ∧ w.cell? ⟨g, 6, none⟩ = some (.int .u32 p.boot) ∧ w.cell? ⟨g, 7, none⟩ = some (.int .i64 p.code) ∧ w.cell? ⟨g, 8, none⟩ = some (.int .i64 p.err) ∧ w.cell? ⟨g, 9, none⟩ = some (.int .u32 p.file) ∧ w.cell? ⟨g, 10, none⟩ = some (.int .u32 p.epoch) ∧ w.cell? ⟨g, 11, none⟩ = some (.int .u32 p.off) ∧ w.cell? ⟨g, 12, none⟩ = some (.int .u32 p.len) ∧ w.cell? ⟨g, 13, none⟩ = some (.int .u32 p.size) ∧ w.cell? ⟨g, 14, none⟩ = some (.int .u32 p.mode) ∧ w.cell? ⟨g, 15, none⟩ = some (.int .u32 p.deny) ∧ w.cell? ⟨g, 16, none⟩ = some (.int .u32 p.handle) ∧ w.cell? ⟨g, 17, none⟩ = some (.string p.path) ∧ w.cell? ⟨g, 18, none⟩ = some (.string p.other) ∧ w.cell? ⟨g, 19, none⟩ = some (.string p.data) :=
  ⟨b.cell 0, b.cell 1, b.cell 2, b.cell 3, b.cell 4, b.cell 5, b.cell 6, b.cell 7, b.cell 8, b.cell 9, b.cell 10, b.cell 11, b.cell 12, b.cell 13, b.cell 14, b.cell 15, b.cell 16, b.cell 17, b.cell 18, b.cell 19⟩
theorem Blk.two {w : World} {g : Nat} {ty : TypeId} {c0 c1 a b : Value} (h : Blk w g ty #[c0, c1]) : Blk ((w.setCell ⟨g, 0, none⟩ a).setCell ⟨g, 1, none⟩ b) g ty #[a, b] := by
  have := (h.set 0 a).set 1 b
  simpa using this
theorem size_le {s : ByteArray} {m : Nat} (h : ¬ m < s.size) : s.size ≤ m := by omega

end Go.Proofs.Ytjnbajpckohnnaa
