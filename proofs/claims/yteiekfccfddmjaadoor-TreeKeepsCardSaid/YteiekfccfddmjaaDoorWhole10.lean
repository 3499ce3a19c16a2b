/- An inode loaded, stored, compared whole. -/
import Derived.Test.YteiekfccfddmjaaDoorNd10
import Derived.Test.YteiekfccfddmjaaDoorChecked
import Derived.Tactics
import Derived.Tactics2
import Derived.StillTactics
import Derived.StillTailTactics
import Derived.RegionTactic
import Derived.WalkKit
import Derived.Deep.MidRow
import Derived.Deep.WholeRow
import Derived.WalkLawsBesides
import Derived.WalkSpells
import Derived.Outline
import Derived.Laws.Pointers
import Derived.Laws.Small
import Derived.Laws.Build
import Derived.Laws.Cover3
import Derived.Laws.StructEq
import Derived.KernelRfl
import Derived.Lib.Hide
import Derived.BigQuiet
import Derived.BigRegion
import Derived.OwnWalk
import Derived.LoopTactic
import Derived.Laws.ResultCell
namespace Go.Proofs.YteiekfccfddmjaaDoor
open Go.RowKit

theorem Blk.range9 {w : World} {g : Nat} {t : TypeId} {cs : List Value} (h : Blk w g t cs.toArray) : w.rangeAt g 0 cs := fun j v hj => by
  rw [Nat.zero_add, h.cell]
  simpa using hj
theorem Only.setRow {S : List Nat} {a w : World} (h : Only S a w) {g : Nat} (hg : g ∈ S ∨ a.heap.size ≤ g) (cs : Array Value) : Only S a (w.setRow g cs) :=
  ⟨h.os, h.tape, h.output, by simpa [World.setRow] using h.size, fun i hi hn => (setRow_other w g i cs (by
    rintro rfl
    rcases hg with hg | hg
    · exact hn hg
    · omega)).trans (h.block i hi hn)⟩
section
variable {P : Program} {ops : Array Oper} {rest : List Oper} {o : Oper} {a : Act} {w : World} {Q : Exit → Act → World → Prop}
theorem wpList_want (hw : Region.wanted o (yielded ops a.tmps) = true) (h : ∀ K : Act → World → Prop, (∀ a w, wpList P ops Q rest a w → K a w) → o.wp P a w K Q) : wpList P ops Q (o :: rest) a w :=
  wpList_step fun _ hK => by rw [if_pos hw]; exact h _ hK
/-- A whole value is loaded. -/
theorem wpList_load_blk (hw : Region.wanted o (yielded ops a.tmps) = true) (ty : TypeId) (x : Operand) (ho : o.op = .load ty x) (g : Nat) (hx : a.eval x = .pointer (some ⟨g, 0, none⟩)) (cs : List Value) (d : TypeDesc) (hb : Blk w g ty cs.toArray)
    (hu : P.underlying ty = some d) (hd : d.isRow = true) (hi : (P.info? ty).map (·.size) = some cs.length) (h : wpList P ops Q rest (a.put o.dst (.agg cs.toArray)) w) : wpList P ops Q (o :: rest) a w :=
  wpList_want hw fun _ hK => wp_load_mid ty x ho g 0 hx cs d (Blk.range9 hb) hu hd hi (hK _ _ h)
/-- A whole value goes into its own block. -/
theorem wpList_store_blk (hw : Region.wanted o (yielded ops a.tmps) = true) (ty : TypeId) (x y : Operand) (ho : o.op = .store ty x y)
    (g : Nat) (c c' : Array Value) (hx : a.eval x = .pointer (some ⟨g, 0, none⟩)) (hy : a.eval y = .agg c') (hb : Blk w g ty c) (hi : (P.info? ty).map (·.size) = some c'.size) (hs : c.size = c'.size) (h1 : c'.all (·.oneCell') = true)
    (h : ∀ w', Blk w' g ty c' → Only [g] w w' → wpList P ops Q rest (a.put o.dst undef) w') : wpList P ops Q (o :: rest) a w := by
  refine wpList_want hw fun _ hK => ?_
  have hrun := run_storeVar_row (P := P) w g ty ty c c' hb hi hs h1
  unfold Oper.wp execOp
  simp only [ho, hx, hy, Instr.storeAt, Instr.sureAddr, Sem.run_bind, Sem.run_pure, Result.andThen_ok, hrun]
  exact hK _ _ (h _ (setRow_heap w g c c' ty _ hb) ((Only.refl [g] w).setRow (.inl (by simp)) _))
end

def ndA (x : Nd) : Array Value := #[.int .u32 x.id, .int .u32 x.par, .string (strOf x.name), .bool x.dir, .int .u32 x.size]
theorem size_nd : (Tryd.prog.info? 28).map (·.size) = some 5 := by kernel_rfl
theorem ndA_zero : ndA zeroN = #[.int .u32 0, .int .u32 0, .string ⟨#[]⟩, .bool false, .int .u32 0] := rfl
/-- A boxed inode. -/
abbrev Bx (w : World) (g : Nat) (x : Nd) : Prop := Blk w g 28 (ndA x)
theorem Bx.cells {w : World} {g : Nat} {x : Nd} (h : Bx w g x) : w.cell? ⟨g, 0, none⟩ = some (.int .u32 x.id) ∧ w.cell? ⟨g, 1, none⟩ = some (.int .u32 x.par) ∧ w.cell? ⟨g, 2, none⟩ = some (.string (strOf x.name)) ∧ w.cell? ⟨g, 3, none⟩ = some (.bool x.dir) ∧ w.cell? ⟨g, 4, none⟩ = some (.int .u32 x.size) :=
  ⟨h.cell 0, h.cell 1, h.cell 2, h.cell 3, h.cell 4⟩
theorem Bx.kept {S : List Nat} {w w' : World} {g : Nat} {x : Nd} (h : Bx w g x) (k : Only S w w') (hg : g ∉ S) : Bx w' g x := Blk.kept h k hg
theorem Bx.alloc {w : World} {g : Nat} {x : Nd} (h : Bx w g x) (o : Obj) : Bx (w.alloc o) g x := Blk.alloc h o
theorem Bx.new (w : World) (x : Nd) : Bx (w.alloc (.cells #[.int .u32 x.id, .int .u32 x.par, .string (strOf x.name), .bool x.dir, .int .u32 x.size] 28)) w.heap.size x := Blk.new _ _ _
theorem Bx.zero (w : World) : Bx (w.alloc (.cells #[.int .u32 0, .int .u32 0, .string ⟨#[]⟩, .bool false, .int .u32 0] 28)) w.heap.size zeroN := Blk.new _ _ _
section
variable {ops : Array Oper} {rest : List Oper} {o : Oper} {a : Act} {w : World} {Q : Exit → Act → World → Prop}
theorem wpList_load_nd (p : Nd) (hw : Region.wanted o (yielded ops a.tmps) = true) (x : Operand) (ho : o.op = .load 28 x) (g : Nat) (hx : a.eval x = .pointer (some ⟨g, 0, none⟩)) (hb : Blk w g 28 (ndA p))
    (h : wpList Tryd.prog ops Q rest (a.put o.dst (ndV p)) w) : wpList Tryd.prog ops Q (o :: rest) a w :=
  wpList_load_blk hw 28 x ho g hx (ndA p).toList _ hb Tryd.underlying28 rfl size_nd h
theorem wpList_store_nd (p q : Nd) (hw : Region.wanted o (yielded ops a.tmps) = true) (x y : Operand) (ho : o.op = .store 28 x y) (g : Nat) (hx : a.eval x = .pointer (some ⟨g, 0, none⟩)) (hy : a.eval y = ndV p) (hb : Blk w g 28 (ndA q))
    (h : ∀ w', Blk w' g 28 (ndA p) → Only [g] w w' → wpList Tryd.prog ops Q rest (a.put o.dst undef) w') : wpList Tryd.prog ops Q (o :: rest) a w :=
  wpList_store_blk hw 28 x y ho g _ _ hx hy hb size_nd rfl (by simp [Value.oneCell']) h
end
theorem results_nd {fn : Func} {p u : Tmp} (h : fn.results = #[.cell p 28, .tmp u]) (tmps : Array Value) (w : World) (g : Nat) (hp : tmps.getD p undef = .pointer (some ⟨g, 0, none⟩)) (q : Nd) (hb : Blk w g 28 (ndA q)) (v : Value) (hv : tmps.getD u undef = v) :
    (results fn tmps).run Tryd.prog w = .ok (.tuple #[ndV q, v]) w := by
  subst hv
  have hl := run_loadVar_mid (P := Tryd.prog) w g 0 28 (ndA q).toList _ (Blk.range9 hb) Tryd.underlying28 rfl size_nd
  rw [results_cell_tmp h, hp]
  simp only [asAddr, Sem.run_pure, Result.andThen_ok, hl]
  rfl


end Go.Proofs.YteiekfccfddmjaaDoor
