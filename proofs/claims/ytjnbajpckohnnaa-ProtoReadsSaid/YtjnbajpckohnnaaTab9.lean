/- What lies where: the numbers and the texts of a packet in memory. -/
import Derived.Test.YtjnbajpckohnnaaPk9
import Derived.Test.YtjnbajpckohnnaaChecked
import Derived.Tactics
import Derived.Tactics2
import Derived.StillTactics
import Derived.StillTailTactics
import Derived.RegionTactic
import Derived.WalkKit
import Derived.WalkLawsBesides
import Derived.WalkSpells
import Derived.Outline
import Derived.Laws.Pointers
import Derived.Laws.Small
import Derived.Laws.Build
import Derived.Laws.Cover3
import Derived.Laws.StructEq
import Derived.KernelRfl
import Derived.Lib.Hide
import Derived.BigQuiet
import Derived.BigRegion
import Derived.OwnWalk
import Derived.LoopTactic
import Derived.Laws.ResultCell
namespace Go.Proofs.Ytjnbajpckohnnaa
open Go.RowKit

theorem Only.undrew {S : List Nat} {w w' : World} (h : Only S w.drew w') : Only S w w' := ⟨h.os, h.tape, h.output, h.size, h.block⟩
theorem Only.boxed {w w1 : World} {o : Obj} (k : Only [] (w.alloc o) w1) : Only [] w w1 := ((Only.refl [] w).alloc o).trans k
theorem results_cell {fn : Func} {p : Tmp} {ty : TypeId} (h : fn.results = #[.cell p ty]) (tmps : Array Value) (P : Program) (w : World) :
    (results fn tmps).run P w = ((asAddr (tmps.getD p undef)).run P w).andThen fun a w₁ => (loadVar ty a).run P w₁ := by
  simp only [results, h]
  simp [Sem.run_bind, Result.andThen]

/-- Where number k lies: its block, its place. -/
def locB (g h : Nat) : Nat → Nat
  | 0 => h
  | 1 => h
  | 2 => h
  | 7 => h
  | 8 => h
  | _ => g
def locO : Nat → Nat
  | 0 => 0
  | 1 => 1
  | 2 => 2
  | 7 => 3
  | 8 => 4
  | k => k
def numsV (g h : Nat) : Value := .agg #[.pointer (some ⟨h, 0, none⟩), .pointer (some ⟨h, 1, none⟩), .pointer (some ⟨h, 2, none⟩), .pointer (some ⟨g, 3, none⟩), .pointer (some ⟨g, 4, none⟩), .pointer (some ⟨g, 5, none⟩), .pointer (some ⟨g, 6, none⟩), .pointer (some ⟨h, 3, none⟩), .pointer (some ⟨h, 4, none⟩), .pointer (some ⟨g, 9, none⟩), .pointer (some ⟨g, 10, none⟩), .pointer (some ⟨g, 11, none⟩), .pointer (some ⟨g, 12, none⟩), .pointer (some ⟨g, 13, none⟩), .pointer (some ⟨g, 14, none⟩), .pointer (some ⟨g, 15, none⟩), .pointer (some ⟨g, 16, none⟩)]
def textsV (g : Nat) : Value := .agg #[.pointer (some ⟨g, 17, none⟩), .int .i64 64, .pointer (some ⟨g, 18, none⟩), .int .i64 64, .pointer (some ⟨g, 19, none⟩), .int .i64 128]
def textV (g j : Nat) : Value := .agg #[.pointer (some ⟨g, 17 + j, none⟩), .int .i64 (mostK j : Nat)]

theorem index_nums (g h k : Nat) (hk : k < 17) : ∀ w : World, (Instr.index 47 (numsV g h) (.int .i64 (k : Int))).run Try.prog w = .ok (.pointer (some ⟨locB g h k, locO k, none⟩)) w := by
  match k, hk with
  | 0, _ => exact fun _ => by kernel_rfl
  | 1, _ => exact fun _ => by kernel_rfl
  | 2, _ => exact fun _ => by kernel_rfl
  | 3, _ => exact fun _ => by kernel_rfl
  | 4, _ => exact fun _ => by kernel_rfl
  | 5, _ => exact fun _ => by kernel_rfl
  | 6, _ => exact fun _ => by kernel_rfl
  | 7, _ => exact fun _ => by kernel_rfl
  | 8, _ => exact fun _ => by kernel_rfl
  | 9, _ => exact fun _ => by kernel_rfl
  | 10, _ => exact fun _ => by kernel_rfl
  | 11, _ => exact fun _ => by kernel_rfl
  | 12, _ => exact fun _ => by kernel_rfl
  | 13, _ => exact fun _ => by kernel_rfl
  | 14, _ => exact fun _ => by kernel_rfl
  | 15, _ => exact fun _ => by kernel_rfl
  | 16, _ => exact fun _ => by kernel_rfl
  | k + 17, hk => exact absurd hk (by omega)
theorem index_texts (g j : Nat) (hj : j < 3) : ∀ w : World, (Instr.index 55 (textsV g) (.int .i64 (j : Int))).run Try.prog w = .ok (.agg #[.pointer (some ⟨g, 17 + j, none⟩), .int .i64 (mostK j : Nat)]) w := by
  match j, hj with
  | 0, _ => exact fun _ => by kernel_rfl
  | 1, _ => exact fun _ => by kernel_rfl
  | 2, _ => exact fun _ => by kernel_rfl

def pC (a z : Nat → Int) (s : Nat → ByteArray) : Array Value := #[.int .i64 (a 0), .int .i64 (a 1), .int .i64 (a 2), .int .u32 (z 3), .int .u32 (z 4), .int .u32 (z 5), .int .u32 (z 6), .int .i64 (a 3), .int .i64 (a 4), .int .u32 (z 9), .int .u32 (z 10), .int .u32 (z 11), .int .u32 (z 12), .int .u32 (z 13), .int .u32 (z 14), .int .u32 (z 15), .int .u32 (z 16), .string (s 0), .string (s 1), .string (s 2)]
def cC (z : Nat → Int) : Array Value := #[.int .u32 (z 0), .int .u32 (z 1), .int .u32 (z 2), .int .u32 (z 7), .int .u32 (z 8)]
def upd (z : Nat → Int) (k : Nat) (v : Int) : Nat → Int := fun i => if i = k then v else z i
def updS (s : Nat → ByteArray) (k : Nat) (v : ByteArray) : Nat → ByteArray := fun i => if i = k then v else s i
structure Lies (w : World) (g h : Nat) (a z : Nat → Int) (s : Nat → ByteArray) : Prop where
  p : Blk w g 27 (pC a z s)
  c : Blk w h 44 (cC z)
  ne : g ≠ h

section
variable {w w' : World} {g h : Nat} {a z : Nat → Int} {s : Nat → ByteArray} {S : List Nat}
theorem Lies.kept (l : Lies w g h a z s) (k : Only S w w') (hg : g ∉ S) (hh : h ∉ S) : Lies w' g h a z s := ⟨l.p.kept k hg, l.c.kept k hh, l.ne⟩
theorem Lies.num (l : Lies w g h a z s) (k : Nat) (hk : k < 17) : w.cell? ⟨locB g h k, locO k, none⟩ = some (.int .u32 (z k)) := by
  match k, hk with
  | 0, _ => exact (l.c.cell 0).trans rfl
  | 1, _ => exact (l.c.cell 1).trans rfl
  | 2, _ => exact (l.c.cell 2).trans rfl
  | 3, _ => exact (l.p.cell 3).trans rfl
  | 4, _ => exact (l.p.cell 4).trans rfl
  | 5, _ => exact (l.p.cell 5).trans rfl
  | 6, _ => exact (l.p.cell 6).trans rfl
  | 7, _ => exact (l.c.cell 3).trans rfl
  | 8, _ => exact (l.c.cell 4).trans rfl
  | 9, _ => exact (l.p.cell 9).trans rfl
  | 10, _ => exact (l.p.cell 10).trans rfl
  | 11, _ => exact (l.p.cell 11).trans rfl
  | 12, _ => exact (l.p.cell 12).trans rfl
  | 13, _ => exact (l.p.cell 13).trans rfl
  | 14, _ => exact (l.p.cell 14).trans rfl
  | 15, _ => exact (l.p.cell 15).trans rfl
  | 16, _ => exact (l.p.cell 16).trans rfl
  | k + 17, hk => exact absurd hk (by omega)
theorem Lies.text (l : Lies w g h a z s) (j : Nat) (hj : j < 3) : w.cell? ⟨g, 17 + j, none⟩ = some (.string (s j)) := by
  match j, hj with
  | 0, _ => exact (l.p.cell 17).trans rfl
  | 1, _ => exact (l.p.cell 18).trans rfl
  | 2, _ => exact (l.p.cell 19).trans rfl
theorem Lies.freeNum (l : Lies w g h a z s) (k : Nat) (hk : k < 17) : w.frozen? ⟨locB g h k, locO k, none⟩ = false := by
  match k, hk with
  | 0, _ => exact l.c.free 0
  | 1, _ => exact l.c.free 1
  | 2, _ => exact l.c.free 2
  | 3, _ => exact l.p.free 3
  | 4, _ => exact l.p.free 4
  | 5, _ => exact l.p.free 5
  | 6, _ => exact l.p.free 6
  | 7, _ => exact l.c.free 3
  | 8, _ => exact l.c.free 4
  | 9, _ => exact l.p.free 9
  | 10, _ => exact l.p.free 10
  | 11, _ => exact l.p.free 11
  | 12, _ => exact l.p.free 12
  | 13, _ => exact l.p.free 13
  | 14, _ => exact l.p.free 14
  | 15, _ => exact l.p.free 15
  | 16, _ => exact l.p.free 16
  | k + 17, hk => exact absurd hk (by omega)
theorem Lies.freeText (l : Lies w g h a z s) (j : Nat) : w.frozen? ⟨g, 17 + j, none⟩ = false := l.p.free _
theorem Lies.setNum (l : Lies w g h a z s) (k : Nat) (hk : k < 17) (v : Int) : Lies (w.setCell ⟨locB g h k, locO k, none⟩ (.int .u32 v)) g h a (upd z k v) s := by
  have hp : ∀ i u, Blk (w.setCell ⟨h, i, none⟩ u) g 27 (pC a z s) := fun i u => l.p.kept ((Only.refl [h] w).setCell (.inl (by simp)) u) (by simpa using l.ne)
  have hc : ∀ i u, Blk (w.setCell ⟨g, i, none⟩ u) h 44 (cC z) := fun i u => l.c.kept ((Only.refl [g] w).setCell (.inl (by simp)) u) (by simpa using fun e => l.ne e.symm)
  match k, hk with
  | 0, _ => exact ⟨hp 0 _, l.c.set 0 _, l.ne⟩
  | 1, _ => exact ⟨hp 1 _, l.c.set 1 _, l.ne⟩
  | 2, _ => exact ⟨hp 2 _, l.c.set 2 _, l.ne⟩
  | 3, _ => exact ⟨l.p.set 3 _, hc 3 _, l.ne⟩
  | 4, _ => exact ⟨l.p.set 4 _, hc 4 _, l.ne⟩
  | 5, _ => exact ⟨l.p.set 5 _, hc 5 _, l.ne⟩
  | 6, _ => exact ⟨l.p.set 6 _, hc 6 _, l.ne⟩
  | 7, _ => exact ⟨hp 3 _, l.c.set 3 _, l.ne⟩
  | 8, _ => exact ⟨hp 4 _, l.c.set 4 _, l.ne⟩
  | 9, _ => exact ⟨l.p.set 9 _, hc 9 _, l.ne⟩
  | 10, _ => exact ⟨l.p.set 10 _, hc 10 _, l.ne⟩
  | 11, _ => exact ⟨l.p.set 11 _, hc 11 _, l.ne⟩
  | 12, _ => exact ⟨l.p.set 12 _, hc 12 _, l.ne⟩
  | 13, _ => exact ⟨l.p.set 13 _, hc 13 _, l.ne⟩
  | 14, _ => exact ⟨l.p.set 14 _, hc 14 _, l.ne⟩
  | 15, _ => exact ⟨l.p.set 15 _, hc 15 _, l.ne⟩
  | 16, _ => exact ⟨l.p.set 16 _, hc 16 _, l.ne⟩
  | k + 17, hk => exact absurd hk (by omega)
theorem Lies.setText (l : Lies w g h a z s) (j : Nat) (hj : j < 3) (v : ByteArray) : Lies (w.setCell ⟨g, 17 + j, none⟩ (.string v)) g h a z (updS s j v) := by
  have hc : ∀ i u, Blk (w.setCell ⟨g, i, none⟩ u) h 44 (cC z) := fun i u => l.c.kept ((Only.refl [g] w).setCell (.inl (by simp)) u) (by simpa using fun e => l.ne e.symm)
  match j, hj with
  | 0, _ => exact ⟨l.p.set 17 _, hc 17 _, l.ne⟩
  | 1, _ => exact ⟨l.p.set 18 _, hc 18 _, l.ne⟩
  | 2, _ => exact ⟨l.p.set 19 _, hc 19 _, l.ne⟩
end

/-- A packet's numbers and texts by their places. -/
def zOf (p : Pk) : Nat → Int := fun k => (numZ p).getD k 0
def sOf (p : Pk) : Nat → ByteArray
  | 0 => p.path
  | 1 => p.other
  | _ => p.data
def aOf (p : Pk) : Nat → Int
  | 0 => p.kind
  | 1 => p.frm
  | 2 => p.to
  | 3 => p.code
  | _ => p.err
theorem pkA_pC (p : Pk) : pkA p = pC (aOf p) (zOf p) (sOf p) := rfl
abbrev cV (p : Pk) : Value := .agg #[.int .u32 p.kind, .int .u32 p.frm, .int .u32 p.to, .int .u32 p.code, .int .u32 p.err]
theorem cV_cC (p : Pk) : cV p = .agg (cC (zOf p)) := rfl
theorem zOf_at (p : Pk) (k : Nat) (hk : k < (numZ p).length) : zOf p k = (numZ p)[k] := by
  unfold zOf
  simp [List.getD, List.getElem?_eq_getElem hk]

end Go.Proofs.Ytjnbajpckohnnaa
