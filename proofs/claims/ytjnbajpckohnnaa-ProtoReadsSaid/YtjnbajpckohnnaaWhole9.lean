/- A packet loaded, stored, compared whole. -/
import Derived.Test.YtjnbajpckohnnaaMem9
import Derived.Test.YtjnbajpckohnnaaChecked
import Derived.Tactics
import Derived.Tactics2
import Derived.StillTactics
import Derived.StillTailTactics
import Derived.RegionTactic
import Derived.WalkKit
import Derived.Deep.MidRow
import Derived.Deep.WholeRow
import Derived.WalkLawsBesides
import Derived.WalkSpells
import Derived.Outline
import Derived.Laws.Pointers
import Derived.Laws.Small
import Derived.Laws.Build
import Derived.Laws.Cover3
import Derived.Laws.StructEq
import Derived.KernelRfl
import Derived.Lib.Hide
import Derived.BigQuiet
import Derived.BigRegion
import Derived.OwnWalk
import Derived.LoopTactic
import Derived.Laws.ResultCell
namespace Go.Proofs.Ytjnbajpckohnnaa
open Go.RowKit

theorem Blk.range9 {w : World} {g : Nat} {t : TypeId} {cs : List Value} (h : Blk w g t cs.toArray) : w.rangeAt g 0 cs := fun j v hj => by
  rw [Nat.zero_add, h.cell]
  simpa using hj
theorem Only.setRow {S : List Nat} {a w : World} (h : Only S a w) {g : Nat} (hg : g ∈ S ∨ a.heap.size ≤ g) (cs : Array Value) : Only S a (w.setRow g cs) :=
  ⟨h.os, h.tape, h.output, by simpa [World.setRow] using h.size, fun i hi hn => (setRow_other w g i cs (by
    rintro rfl
    rcases hg with hg | hg
    · exact hn hg
    · omega)).trans (h.block i hi hn)⟩
section
variable {P : Program} {ops : Array Oper} {rest : List Oper} {o : Oper} {a : Act} {w : World} {Q : Exit → Act → World → Prop}
theorem wpList_want (hw : Region.wanted o (yielded ops a.tmps) = true) (h : ∀ K : Act → World → Prop, (∀ a w, wpList P ops Q rest a w → K a w) → o.wp P a w K Q) : wpList P ops Q (o :: rest) a w :=
  wpList_step fun _ hK => by rw [if_pos hw]; exact h _ hK
/-- A whole value is loaded. -/
theorem wpList_load_blk (hw : Region.wanted o (yielded ops a.tmps) = true) (ty : TypeId) (x : Operand) (ho : o.op = .load ty x) (g : Nat) (hx : a.eval x = .pointer (some ⟨g, 0, none⟩)) (cs : List Value) (d : TypeDesc) (hb : Blk w g ty cs.toArray)
    (hu : P.underlying ty = some d) (hd : d.isRow = true) (hi : (P.info? ty).map (·.size) = some cs.length) (h : wpList P ops Q rest (a.put o.dst (.agg cs.toArray)) w) : wpList P ops Q (o :: rest) a w :=
  wpList_want hw fun _ hK => wp_load_mid ty x ho g 0 hx cs d (Blk.range9 hb) hu hd hi (hK _ _ h)
/-- A whole value goes into its own block. -/
theorem wpList_store_blk (hw : Region.wanted o (yielded ops a.tmps) = true) (ty : TypeId) (x y : Operand) (ho : o.op = .store ty x y)
    (g : Nat) (c c' : Array Value) (hx : a.eval x = .pointer (some ⟨g, 0, none⟩)) (hy : a.eval y = .agg c') (hb : Blk w g ty c) (hi : (P.info? ty).map (·.size) = some c'.size) (hs : c.size = c'.size) (h1 : c'.all (·.oneCell') = true)
    (h : ∀ w', Blk w' g ty c' → Only [g] w w' → wpList P ops Q rest (a.put o.dst undef) w') : wpList P ops Q (o :: rest) a w := by
  refine wpList_want hw fun _ hK => ?_
  have hrun := run_storeVar_row (P := P) w g ty ty c c' hb hi hs h1
  unfold Oper.wp execOp
  simp only [ho, hx, hy, Instr.storeAt, Instr.sureAddr, Sem.run_bind, Sem.run_pure, Result.andThen_ok, hrun]
  exact hK _ _ (h _ (setRow_heap w g c c' ty _ hb) ((Only.refl [g] w).setRow (.inl (by simp)) _))
end

def zA : Array Value := #[.int .i64 0, .int .i64 0, .int .i64 0, .int .u32 0, .int .u32 0, .int .u32 0, .int .u32 0, .int .i64 0, .int .i64 0, .int .u32 0, .int .u32 0, .int .u32 0, .int .u32 0, .int .u32 0, .int .u32 0, .int .u32 0, .int .u32 0, .string ⟨#[]⟩, .string ⟨#[]⟩, .string ⟨#[]⟩]
theorem size_pk : (Try.prog.info? 27).map (·.size) = some 20 := by kernel_rfl
section
variable {ops : Array Oper} {rest : List Oper} {o : Oper} {a : Act} {w : World} {Q : Exit → Act → World → Prop}
theorem wpList_load_pk (p : Pk) (hw : Region.wanted o (yielded ops a.tmps) = true) (x : Operand) (ho : o.op = .load 27 x) (g : Nat) (hx : a.eval x = .pointer (some ⟨g, 0, none⟩)) (hb : Blk w g 27 (pkA p))
    (h : wpList Try.prog ops Q rest (a.put o.dst (pkV p)) w) : wpList Try.prog ops Q (o :: rest) a w :=
  wpList_load_blk hw 27 x ho g hx (pkA p).toList _ hb Try.underlying27 rfl size_pk h
theorem wpList_store_pk (p q : Pk) (hw : Region.wanted o (yielded ops a.tmps) = true) (x y : Operand) (ho : o.op = .store 27 x y) (g : Nat) (hx : a.eval x = .pointer (some ⟨g, 0, none⟩)) (hy : a.eval y = pkV p) (hb : Blk w g 27 (pkA q))
    (h : ∀ w', Blk w' g 27 (pkA p) → Only [g] w w' → wpList Try.prog ops Q rest (a.put o.dst undef) w') : wpList Try.prog ops Q (o :: rest) a w :=
  wpList_store_blk hw 27 x y ho g _ _ hx hy hb size_pk rfl (by simp [Value.oneCell']) h
end
theorem results_pk {fn : Func} {p u : Tmp} (h : fn.results = #[.cell p 27, .tmp u]) (tmps : Array Value) (w : World) (g : Nat) (hp : tmps.getD p undef = .pointer (some ⟨g, 0, none⟩)) (q : Pk) (hb : Blk w g 27 (pkA q)) (v : Value) (hv : tmps.getD u undef = v) :
    (results fn tmps).run Try.prog w = .ok (.tuple #[pkV q, v]) w := by
  subst hv
  have hl := run_loadVar_mid (P := Try.prog) w g 0 27 (pkA q).toList _ (Blk.range9 hb) Try.underlying27 rfl size_pk
  rw [results_cell_tmp h, hp]
  simp only [asAddr, Sem.run_pure, Result.andThen_ok, hl]

theorem pk_ext (p q : Pk) : p = q ↔ (p.kind = q.kind ∧ p.frm = q.frm ∧ p.to = q.to ∧ p.life = q.life ∧ p.seq = q.seq ∧ p.asked = q.asked ∧ p.boot = q.boot ∧ p.code = q.code ∧ p.err = q.err ∧ p.file = q.file ∧ p.epoch = q.epoch ∧ p.off = q.off ∧ p.len = q.len ∧ p.size = q.size ∧ p.mode = q.mode ∧ p.deny = q.deny ∧ p.handle = q.handle ∧ p.path = q.path ∧ p.other = q.other ∧ p.data = q.data) := by
  obtain ⟨x0, x1, x2, x3, x4, x5, x6, x7, x8, x9, x10, x11, x12, x13, x14, x15, x16, x17, x18, x19⟩ := p
  obtain ⟨y0, y1, y2, y3, y4, y5, y6, y7, y8, y9, y10, y11, y12, y13, y14, y15, y16, y17, y18, y19⟩ := q
  simp only [Pk.mk.injEq]
instance : DecidableEq Pk := fun p q => decidable_of_iff _ (pk_ext p q).symm

end Go.Proofs.Ytjnbajpckohnnaa
