/- A holder, a lock in memory: loaded, stored, compared whole; parts of a list of holders. -/
import Derived.Test.YtnmmdnecojgccaaStr10
import Derived.Test.YtnmmdnecojgccaaHd1
import Derived.Test.YtnmmdnecojgccaaChecked
import Derived.Tactics
import Derived.Tactics2
import Derived.StillTactics
import Derived.StillTailTactics
import Derived.RegionTactic
import Derived.WalkKit
import Derived.Deep.MidRow
import Derived.Deep.WholeRow
import Derived.WalkLawsBesides
import Derived.WalkSpells
import Derived.Outline
import Derived.Laws.Pointers
import Derived.Laws.Small
import Derived.Laws.Build
import Derived.Laws.Cover3
import Derived.Laws.StructEq
import Derived.KernelRfl
import Derived.Lib.Hide
import Derived.BigQuiet
import Derived.BigRegion
import Derived.OwnWalk
import Derived.LoopTactic
import Derived.Laws.ResultCell
import Derived.Deep.RegionHeld3
namespace Go.Proofs.Ytnmmdnecojgccaa
open Go.RowKit

def intOf : Value → Int
  | .int _ x => x
  | _ => 0
theorem Only.undrew {S : List Nat} {w w' : World} (h : Only S w.drew w') : Only S w w' := ⟨h.os, h.tape, h.output, h.size, h.block⟩
theorem Only.undrewN {S : List Nat} {w w' : World} {n : Nat} (h : Only S (w.drewN n) w') : Only S w w' := ⟨h.os, h.tape, h.output, h.size, h.block⟩

def holE (x : Hol) : List Value := [.int .u32 x.client, .int .u32 x.mode]
def holV (x : Hol) : Value := .agg #[.int .u32 x.client, .int .u32 x.mode]
def holA (x : Hol) : Array Value := #[.int .u32 x.client, .int .u32 x.mode]
theorem holE_length (x : Hol) : (holE x).length = 2 := rfl
theorem holE_one (x : Hol) : ∀ v ∈ holE x, v.oneCell' = true := by
  intro v hv
  simp [holE] at hv
  rcases hv with rfl | rfl <;> rfl
theorem info_hol : (Try.prog.info? 47).map (fun i => (i.zero, i.size, i.bytes)) = some (some (.agg #[.int .u32 0, .int .u32 0]), 2, 8) := by kernel_rfl
theorem hols_at {w : World} {g o : Nat} {l : List Hol} (h : ElsAt holE 2 w g o l) {i : Nat} (hi : i < l.length) :
    w.cell? ⟨g, o + i * 2, none⟩ = some (.int .u32 l[i].client) ∧ w.cell? ⟨g, o + i * 2 + 1, none⟩ = some (.int .u32 l[i].mode) :=
  ⟨by simpa using h i hi 0 _ rfl, h i hi 1 _ rfl⟩
theorem size_hol : (Try.prog.info? 47).map (·.size) = some 2 := by kernel_rfl
theorem size_hol' : ∀ w, (Go.sizeOf 47).run Try.prog w = .ok 2 w := Try.sizeOf47

theorem Blk.range9 {w : World} {g : Nat} {t : TypeId} {cs : List Value} (h : Blk w g t cs.toArray) : w.rangeAt g 0 cs := fun j v hj => by
  rw [Nat.zero_add, h.cell]
  simpa using hj
theorem Only.setRow {S : List Nat} {a w : World} (h : Only S a w) {g : Nat} (hg : g ∈ S ∨ a.heap.size ≤ g) (cs : Array Value) : Only S a (w.setRow g cs) :=
  ⟨h.os, h.tape, h.output, by simpa [World.setRow] using h.size, fun i hi hn => (setRow_other w g i cs (by
    rintro rfl
    rcases hg with hg | hg
    · exact hn hg
    · omega)).trans (h.block i hi hn)⟩
section
variable {P : Program} {ops : Array Oper} {rest : List Oper} {o : Oper} {a : Act} {w : World} {Q : Exit → Act → World → Prop}
theorem wpList_want (hw : Region.wanted o (yielded ops a.tmps) = true) (h : ∀ K : Act → World → Prop, (∀ a w, wpList P ops Q rest a w → K a w) → o.wp P a w K Q) : wpList P ops Q (o :: rest) a w :=
  wpList_step fun _ hK => by rw [if_pos hw]; exact h _ hK
/-- A whole value is loaded. -/
theorem wpList_load_blk (hw : Region.wanted o (yielded ops a.tmps) = true) (ty : TypeId) (x : Operand) (ho : o.op = .load ty x) (g : Nat) (hx : a.eval x = .pointer (some ⟨g, 0, none⟩)) (cs : List Value) (d : TypeDesc) (hb : Blk w g ty cs.toArray)
    (hu : P.underlying ty = some d) (hd : d.isRow = true) (hi : (P.info? ty).map (·.size) = some cs.length) (h : wpList P ops Q rest (a.put o.dst (.agg cs.toArray)) w) : wpList P ops Q (o :: rest) a w :=
  wpList_want hw fun _ hK => wp_load_mid ty x ho g 0 hx cs d (Blk.range9 hb) hu hd hi (hK _ _ h)
/-- A whole value goes into its own block. -/
theorem wpList_store_blk (hw : Region.wanted o (yielded ops a.tmps) = true) (ty : TypeId) (x y : Operand) (ho : o.op = .store ty x y)
    (g : Nat) (c c' : Array Value) (hx : a.eval x = .pointer (some ⟨g, 0, none⟩)) (hy : a.eval y = .agg c') (hb : Blk w g ty c) (hi : (P.info? ty).map (·.size) = some c'.size) (hs : c.size = c'.size) (h1 : c'.all (·.oneCell') = true)
    (h : ∀ w', Blk w' g ty c' → Only [g] w w' → wpList P ops Q rest (a.put o.dst undef) w') : wpList P ops Q (o :: rest) a w := by
  refine wpList_want hw fun _ hK => ?_
  have hrun := run_storeVar_row (P := P) w g ty ty c c' hb hi hs h1
  unfold Oper.wp execOp
  simp only [ho, hx, hy, Instr.storeAt, Instr.sureAddr, Sem.run_bind, Sem.run_pure, Result.andThen_ok, hrun]
  exact hK _ _ (h _ (setRow_heap w g c c' ty _ hb) ((Only.refl [g] w).setRow (.inl (by simp)) _))
end

/-- A boxed holder. -/
abbrev Bx (w : World) (g : Nat) (x : Hol) : Prop := Blk w g 47 (holA x)
theorem Bx.cells {w : World} {g : Nat} {x : Hol} (h : Bx w g x) : w.cell? ⟨g, 0, none⟩ = some (.int .u32 x.client) ∧ w.cell? ⟨g, 1, none⟩ = some (.int .u32 x.mode) :=
  ⟨h.cell 0, h.cell 1⟩
theorem Bx.kept {S : List Nat} {w w' : World} {g : Nat} {x : Hol} (h : Bx w g x) (k : Only S w w') (hg : g ∉ S) : Bx w' g x := Blk.kept h k hg
theorem Bx.new (w : World) (x : Hol) : Bx (w.alloc (.cells #[.int .u32 x.client, .int .u32 x.mode] 47)) w.heap.size x := Blk.new _ _ _

/-! A lock: its cells, v its holders' slice. -/
def lkA (l : Lk) (v : Value) : Array Value := #[.int .u32 l.file, .int .u32 l.epoch, .int .u32 l.used, .int .u32 l.cut, .bool l.fenced, .bool l.gone, v]
def lkV (l : Lk) (v : Value) : Value := .agg #[.int .u32 l.file, .int .u32 l.epoch, .int .u32 l.used, .int .u32 l.cut, .bool l.fenced, .bool l.gone, v]
theorem lkV_mk (f e u k : Int) (fe go : Bool) (hs : List Hol) (v : Value) : lkV ⟨f, e, u, k, fe, go, hs⟩ v = .agg #[.int .u32 f, .int .u32 e, .int .u32 u, .int .u32 k, .bool fe, .bool go, v] := rfl
theorem lkV_no : lkV noL (.slice none 0 0) = .agg #[.int .u32 0, .int .u32 0, .int .u32 0, .int .u32 0, .bool false, .bool false, .slice none 0 0] := rfl
theorem size_lk : (Try.prog.info? 25).map (·.size) = some 7 := by kernel_rfl
theorem size_lk' : ∀ w, (Go.sizeOf 25).run Try.prog w = .ok 7 w := Try.sizeOf25
abbrev Lx (w : World) (g : Nat) (l : Lk) (v : Value) : Prop := Blk w g 25 (lkA l v)
theorem Lx.kept {S : List Nat} {w w' : World} {g : Nat} {l : Lk} {v : Value} (h : Lx w g l v) (k : Only S w w') (hg : g ∉ S) : Lx w' g l v := Blk.kept h k hg
theorem Lx.alloc {w : World} {g : Nat} {l : Lk} {v : Value} (h : Lx w g l v) (o : Obj) : Lx (w.alloc o) g l v := Blk.alloc h o
theorem Lx.new (w : World) (f e u k : Int) (fe go : Bool) (hs : List Hol) (v : Value) : Lx (w.alloc (.cells #[.int .u32 f, .int .u32 e, .int .u32 u, .int .u32 k, .bool fe, .bool go, v] 25)) w.heap.size ⟨f, e, u, k, fe, go, hs⟩ v := Blk.new _ _ _
theorem Lx.zero (w : World) : Lx (w.alloc (.cells #[.int .u32 0, .int .u32 0, .int .u32 0, .int .u32 0, .bool false, .bool false, .slice none 0 0] 25)) w.heap.size noL (.slice none 0 0) := Blk.new _ _ _
theorem Lx.cells {w : World} {g : Nat} {l : Lk} {v : Value} (h : Lx w g l v) : w.cell? ⟨g, 0, none⟩ = some (.int .u32 l.file) ∧ w.cell? ⟨g, 1, none⟩ = some (.int .u32 l.epoch) ∧ w.cell? ⟨g, 2, none⟩ = some (.int .u32 l.used) ∧ w.cell? ⟨g, 3, none⟩ = some (.int .u32 l.cut) ∧ w.cell? ⟨g, 4, none⟩ = some (.bool l.fenced) ∧ w.cell? ⟨g, 5, none⟩ = some (.bool l.gone) ∧ w.cell? ⟨g, 6, none⟩ = some v :=
  ⟨h.cell 0, h.cell 1, h.cell 2, h.cell 3, h.cell 4, h.cell 5, h.cell 6⟩
/-- .. in letters, later on. -/
theorem Lx.at {S : List Nat} {w w' : World} {g : Nat} {f e u k : Int} {fe go : Bool} {hs : List Hol} {v : Value} (h : Lx w g ⟨f, e, u, k, fe, go, hs⟩ v) (kk : Only S w w') (hg : g ∉ S) : w'.cell? ⟨g, 0, none⟩ = some (.int .u32 f) ∧ w'.cell? ⟨g, 1, none⟩ = some (.int .u32 e) ∧ w'.cell? ⟨g, 2, none⟩ = some (.int .u32 u) ∧ w'.cell? ⟨g, 3, none⟩ = some (.int .u32 k) ∧ w'.cell? ⟨g, 4, none⟩ = some (.bool fe) ∧ w'.cell? ⟨g, 5, none⟩ = some (.bool go) ∧ w'.cell? ⟨g, 6, none⟩ = some v :=
  (h.kept kk hg).cells
section
variable {ops : Array Oper} {rest : List Oper} {o : Oper} {a : Act} {w : World} {Q : Exit → Act → World → Prop}
theorem wpList_load_lk (p : Lk) (v : Value) (hw : Region.wanted o (yielded ops a.tmps) = true) (x : Operand) (ho : o.op = .load 25 x) (g : Nat) (hx : a.eval x = .pointer (some ⟨g, 0, none⟩)) (hb : Blk w g 25 (lkA p v))
    (h : wpList Try.prog ops Q rest (a.put o.dst (lkV p v)) w) : wpList Try.prog ops Q (o :: rest) a w :=
  wpList_load_blk hw 25 x ho g hx (lkA p v).toList _ hb Try.underlying25 rfl size_lk h
theorem wpList_store_lk (p q : Lk) (v u : Value) (hv : v.oneCell' = true) (hw : Region.wanted o (yielded ops a.tmps) = true) (x y : Operand) (ho : o.op = .store 25 x y) (g : Nat) (hx : a.eval x = .pointer (some ⟨g, 0, none⟩)) (hy : a.eval y = lkV p v) (hb : Blk w g 25 (lkA q u))
    (h : ∀ w', Blk w' g 25 (lkA p v) → Only [g] w w' → wpList Try.prog ops Q rest (a.put o.dst undef) w') : wpList Try.prog ops Q (o :: rest) a w :=
  wpList_store_blk hw 25 x y ho g _ _ hx hy hb size_lk rfl (by simp [Value.oneCell']; exact hv) h
end
theorem load_lk {w : World} {g : Nat} {p : Lk} {v : Value} (hb : Blk w g 25 (lkA p v)) : (loadVar 25 ⟨g, 0, none⟩).run Try.prog w = .ok (lkV p v) w :=
  run_loadVar_mid (P := Try.prog) w g 0 25 (lkA p v).toList _ (Blk.range9 hb) Try.underlying25 rfl size_lk
theorem results_lk {fn : Func} {p : Tmp} (h : fn.results = #[.cell p 25]) (tmps : Array Value) (w : World) (g : Nat) (hp : tmps.getD p undef = .pointer (some ⟨g, 0, none⟩)) (q : Lk) (v : Value) (hb : Blk w g 25 (lkA q v)) :
    (results fn tmps).run Try.prog w = .ok (lkV q v) w := by
  rw [results_cell h, hp]
  simp only [asAddr, Sem.run_pure, Result.andThen_ok, load_lk hb]
theorem results_lk1 {fn : Func} {p u : Tmp} (h : fn.results = #[.cell p 25, .tmp u]) (tmps : Array Value) (w : World) (g : Nat) (hp : tmps.getD p undef = .pointer (some ⟨g, 0, none⟩)) (q : Lk) (v : Value) (hb : Blk w g 25 (lkA q v)) (x : Value) (hx : tmps.getD u undef = x) :
    (results fn tmps).run Try.prog w = .ok (.tuple #[lkV q v, x]) w := by
  subst hx
  rw [results_cell_tmp h, hp]
  simp only [asAddr, Sem.run_pure, Result.andThen_ok, load_lk hb]
theorem results_two0 {fn : Func} {p u s : Tmp} {ty : TypeId} (h : fn.results = #[.cell p ty, .tmp u, .tmp s]) (tmps : Array Value) (P : Program) (w : World) :
    (results fn tmps).run P w = ((asAddr (tmps.getD p undef)).run P w).andThen fun a w₁ => ((loadVar ty a).run P w₁).andThen fun v w₂ => .ok (.tuple #[v, tmps.getD u undef, tmps.getD s undef]) w₂ := by
  simp only [results, h]
  simp [Sem.run_bind, Result.andThen]
theorem results_lk2 {fn : Func} {p u s : Tmp} (h : fn.results = #[.cell p 25, .tmp u, .tmp s]) (tmps : Array Value) (w : World) (g : Nat) (hp : tmps.getD p undef = .pointer (some ⟨g, 0, none⟩)) (q : Lk) (v : Value) (hb : Blk w g 25 (lkA q v)) (x y : Value) (hx : tmps.getD u undef = x) (hy : tmps.getD s undef = y) :
    (results fn tmps).run Try.prog w = .ok (.tuple #[lkV q v, x, y]) w := by
  subst hx hy
  rw [results_two0 h, hp]
  simp only [asAddr, Sem.run_pure, Result.andThen_ok, load_lk hb]

/-! A list's tail and head, as slices. -/
section
variable {α : Type} {enc : α → List Value} {k : Nat} {w : World} {A : Option Addr} {l : List α}
def tailA (A : Option Addr) (c m k : Nat) : Option Addr := if c = m then A else A.map (·.add (m * k))
theorem run_tail {P : Program} (t e : TypeId) (ht : P.underlying t = some (.slice e)) (hz : ∀ w, (Go.sizeOf e).run P w = .ok k w) (A : Option Addr) (n c m : Nat) (x : Int) (hx : x = m) (hm : m ≤ n) (W : World) :
    (Instr.slice t (.slice A n c) (some (.int .i64 x)) none none).run P W = .ok (.slice (tailA A c m k) (n - m) (c - m)) W := by
  subst hx
  have ht' : P.underlying t = some (.slice (P.elem t)) := by simp [Program.elem, ht]
  have he : P.elem t = e := by simp [Program.elem, ht]
  rw [run_slice_l W t _ _ _ ht' .i64 _ (by omega) (by omega), he, hz]
  simp [Result.andThen, sliced, tailA]
theorem run_head {P : Program} (t e : TypeId) (ht : P.underlying t = some (.slice e)) (hz : ∀ w, (Go.sizeOf e).run P w = .ok k w) (A : Option Addr) (n c m : Nat) (x : Int) (hx : x = m) (hm : m ≤ c) (W : World) :
    (Instr.slice t (.slice A n c) none (some (.int .i64 x)) none).run P W = .ok (.slice (tailA A c 0 k) m c) W := by
  subst hx
  have ht' : P.underlying t = some (.slice (P.elem t)) := by simp [Program.elem, ht]
  have he : P.elem t = e := by simp [Program.elem, ht]
  rw [run_slice_h W t _ _ _ ht' .i64 _ (by omega) (by omega), he, hz]
  simp [Result.andThen, sliced, tailA]
theorem tailA_block {A : Option Addr} {c m k : Nat} : ∀ a, tailA A c m k = some a → ∃ b, A = some b ∧ a.block = b.block := by
  intro a h
  unfold tailA at h
  split at h
  · exact ⟨a, h, rfl⟩
  · cases A with
    | none => cases h
    | some b =>
      simp only [Option.map_some, Option.some.injEq] at h
      refine ⟨b, rfl, ?_⟩
      rw [← h]
      unfold Addr.add
      split <;> rfl
theorem Els.tail (h : Els enc k w A l) {c m : Nat} (hc : l.length ≤ c) (hm : m ≤ l.length) : Els enc k w (tailA A c m k) (l.drop m) := by
  by_cases h0 : m = l.length
  · exact .inl (by rw [h0]; simp)
  · obtain ⟨g, o, rfl, hg, hat⟩ := h.get (i := m) (by omega)
    right
    refine ⟨g, o + m * k, ?_, hg, fun i hi j v hv => ?_⟩
    · unfold tailA
      rw [if_neg (by omega)]
      simp [addr_add]
    · have hi' : m + i < l.length := by simp at hi; omega
      have := hat (m + i) hi' j v (by simpa using hv)
      rw [← this]
      congr 2
      rw [Nat.add_mul]
      omega
theorem Els.head (h : Els enc k w A l) {c m : Nat} : Els enc k w (tailA A c 0 k) (l.take m) := by
  rcases h with rfl | ⟨g, o, rfl, hg, hat⟩
  · exact .inl (by simp)
  · right
    refine ⟨g, o, ?_, hg, fun i hi j v hv => ?_⟩
    · unfold tailA
      split
      · rfl
      · simp [addr_add]
    · have hi' : i < l.length := by simp at hi; omega
      exact hat i hi' j v (by simpa using hv)
end
section
variable {P : Program}
theorem held_take {ops : Array Oper} {Q : Exit → Act → World → Prop} {md : Region.Mode} {S : World → Prop} {fuel : Nat} {listed : Array Bool} {a : Act} {w : World} (i : Nat) {oi : Oper} (v : Value) (hi : ops.toList[i]? = some oi)
    (hs : Region.noSelect ops = true) (hf : Region.free md ops listed i = true) (hr : (Region.ready md ops listed).contains i = true)
    (hQ : ∀ c a w, Q (.panic c) (a.put oi.dst v) w → Q (.panic c) a w) (hS : S w) (hy : YieldsIf P ops S oi v a)
    (h : wpAnyH P md ops Q S fuel (listed.setIfInBounds i true) (a.put oi.dst v) w) : wpAnyH P md ops Q S (fuel + 1) listed a w :=
  wpAnyH_take (by simpa using hi) hs hf hr hQ hy hS h
theorem held_step {ops : Array Oper} {Q : Exit → Act → World → Prop} {md : Region.Mode} {S : World → Prop} {fuel : Nat} {listed : Array Bool} {a : Act} {w : World} (i : Nat) {oi : Oper} (hi : ops.toList[i]? = some oi)
    (hr : Region.ready md ops listed = [i])
    (h : ∀ K' : Act → World → Prop, Shut (∀ a w, S w → (S w → wpAnyH P md ops Q S fuel (listed.setIfInBounds i true) a w) → K' a w) → if Region.wanted oi (yielded ops a.tmps) = true then Oper.wp P oi a w K' Q else K' (a.put oi.dst undef) w) :
    wpAnyH P md ops Q S (fuel + 1) listed a w :=
  wpAnyH_ready hr (by simp) (AllReadyH.cons (by simpa using hi) h AllReadyH.nil)
end
section
variable {P : Program}
theorem held_step2 {ops : Array Oper} {Q : Exit → Act → World → Prop} {md : Region.Mode} {S : World → Prop} {fuel : Nat} {listed : Array Bool} {a : Act} {w : World} (i j : Nat) {oi oj : Oper} (hi : ops.toList[i]? = some oi) (hj : ops.toList[j]? = some oj)
    (hr : Region.ready md ops listed = [i, j])
    (h : ∀ K' : Act → World → Prop, Shut (∀ a w, S w → (S w → wpAnyH P md ops Q S fuel (listed.setIfInBounds i true) a w) → K' a w) → if Region.wanted oi (yielded ops a.tmps) = true then Oper.wp P oi a w K' Q else K' (a.put oi.dst undef) w)
    (h' : ∀ K' : Act → World → Prop, Shut (∀ a w, S w → (S w → wpAnyH P md ops Q S fuel (listed.setIfInBounds j true) a w) → K' a w) → if Region.wanted oj (yielded ops a.tmps) = true then Oper.wp P oj a w K' Q else K' (a.put oj.dst undef) w) :
    wpAnyH P md ops Q S (fuel + 1) listed a w :=
  wpAnyH_ready hr (by simp) (AllReadyH.cons (by simpa using hi) h (AllReadyH.cons (by simpa using hj) h' AllReadyH.nil))
end
end Go.Proofs.Ytnmmdnecojgccaa
