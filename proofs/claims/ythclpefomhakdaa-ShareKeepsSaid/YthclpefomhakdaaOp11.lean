/- An open in memory: loaded, stored, compared whole; parts of a list of opens. -/
import Derived.Test.YthclpefomhakdaaStr10
import Derived.Test.YthclpefomhakdaaSh1
import Derived.Test.YthclpefomhakdaaChecked
import Derived.Tactics
import Derived.Tactics2
import Derived.StillTactics
import Derived.StillTailTactics
import Derived.RegionTactic
import Derived.WalkKit
import Derived.Deep.MidRow
import Derived.Deep.WholeRow
import Derived.WalkLawsBesides
import Derived.WalkSpells
import Derived.Outline
import Derived.Laws.Pointers
import Derived.Laws.Small
import Derived.Laws.Build
import Derived.Laws.Cover3
import Derived.Laws.StructEq
import Derived.KernelRfl
import Derived.Lib.Hide
import Derived.BigQuiet
import Derived.BigRegion
import Derived.OwnWalk
import Derived.LoopTactic
import Derived.Laws.ResultCell
import Derived.Deep.RegionHeld3
namespace Go.Proofs.Ythclpefomhakdaa
open Go.RowKit

def intOf : Value → Int
  | .int _ x => x
  | _ => 0
theorem Only.undrew {S : List Nat} {w w' : World} (h : Only S w.drew w') : Only S w w' := ⟨h.os, h.tape, h.output, h.size, h.block⟩
theorem Only.undrewN {S : List Nat} {w w' : World} {n : Nat} (h : Only S (w.drewN n) w') : Only S w w' := ⟨h.os, h.tape, h.output, h.size, h.block⟩

def opE (x : Opn) : List Value := [.int .u32 x.client, .int .u32 x.handle, .int .u32 x.file, .int .u32 x.access, .int .u32 (x.deny : Int)]
def opV (x : Opn) : Value := .agg #[.int .u32 x.client, .int .u32 x.handle, .int .u32 x.file, .int .u32 x.access, .int .u32 (x.deny : Int)]
def opA (x : Opn) : Array Value := #[.int .u32 x.client, .int .u32 x.handle, .int .u32 x.file, .int .u32 x.access, .int .u32 (x.deny : Int)]
theorem opE_length (x : Opn) : (opE x).length = 5 := rfl
theorem opE_one (x : Opn) : ∀ v ∈ opE x, v.oneCell' = true := by
  intro v hv
  simp [opE] at hv
  rcases hv with rfl | rfl | rfl | rfl | rfl <;> rfl
theorem info_op : (Try.prog.info? 27).map (fun i => (i.zero, i.size, i.bytes)) = some (some (.agg #[.int .u32 0, .int .u32 0, .int .u32 0, .int .u32 0, .int .u32 0]), 5, 20) := by kernel_rfl
theorem ops_at {w : World} {g o : Nat} {l : List Opn} (h : ElsAt opE 5 w g o l) {i : Nat} (hi : i < l.length) :
    w.cell? ⟨g, o + i * 5, none⟩ = some (.int .u32 l[i].client) ∧ w.cell? ⟨g, o + i * 5 + 1, none⟩ = some (.int .u32 l[i].handle) ∧ w.cell? ⟨g, o + i * 5 + 2, none⟩ = some (.int .u32 l[i].file) ∧ w.cell? ⟨g, o + i * 5 + 3, none⟩ = some (.int .u32 l[i].access) ∧ w.cell? ⟨g, o + i * 5 + 4, none⟩ = some (.int .u32 (l[i].deny : Int)) :=
  ⟨by simpa using h i hi 0 _ rfl, h i hi 1 _ rfl, h i hi 2 _ rfl, h i hi 3 _ rfl, h i hi 4 _ rfl⟩
theorem opV_zero : opV zeroO = .agg #[.int .u32 0, .int .u32 0, .int .u32 0, .int .u32 0, .int .u32 0] := rfl
theorem opA_zero : opA zeroO = #[.int .u32 0, .int .u32 0, .int .u32 0, .int .u32 0, .int .u32 0] := rfl
theorem size_op : (Try.prog.info? 27).map (·.size) = some 5 := by kernel_rfl
theorem size_op' : ∀ w, (Go.sizeOf 27).run Try.prog w = .ok 5 w := Try.sizeOf27

theorem Blk.range9 {w : World} {g : Nat} {t : TypeId} {cs : List Value} (h : Blk w g t cs.toArray) : w.rangeAt g 0 cs := fun j v hj => by
  rw [Nat.zero_add, h.cell]
  simpa using hj
theorem Only.setRow {S : List Nat} {a w : World} (h : Only S a w) {g : Nat} (hg : g ∈ S ∨ a.heap.size ≤ g) (cs : Array Value) : Only S a (w.setRow g cs) :=
  ⟨h.os, h.tape, h.output, by simpa [World.setRow] using h.size, fun i hi hn => (setRow_other w g i cs (by
    rintro rfl
    rcases hg with hg | hg
    · exact hn hg
    · omega)).trans (h.block i hi hn)⟩
section
variable {P : Program} {ops : Array Oper} {rest : List Oper} {o : Oper} {a : Act} {w : World} {Q : Exit → Act → World → Prop}
theorem wpList_want (hw : Region.wanted o (yielded ops a.tmps) = true) (h : ∀ K : Act → World → Prop, (∀ a w, wpList P ops Q rest a w → K a w) → o.wp P a w K Q) : wpList P ops Q (o :: rest) a w :=
  wpList_step fun _ hK => by rw [if_pos hw]; exact h _ hK
/-- A whole value is loaded. -/
theorem wpList_load_blk (hw : Region.wanted o (yielded ops a.tmps) = true) (ty : TypeId) (x : Operand) (ho : o.op = .load ty x) (g : Nat) (hx : a.eval x = .pointer (some ⟨g, 0, none⟩)) (cs : List Value) (d : TypeDesc) (hb : Blk w g ty cs.toArray)
    (hu : P.underlying ty = some d) (hd : d.isRow = true) (hi : (P.info? ty).map (·.size) = some cs.length) (h : wpList P ops Q rest (a.put o.dst (.agg cs.toArray)) w) : wpList P ops Q (o :: rest) a w :=
  wpList_want hw fun _ hK => wp_load_mid ty x ho g 0 hx cs d (Blk.range9 hb) hu hd hi (hK _ _ h)
/-- A whole value goes into its own block. -/
theorem wpList_store_blk (hw : Region.wanted o (yielded ops a.tmps) = true) (ty : TypeId) (x y : Operand) (ho : o.op = .store ty x y)
    (g : Nat) (c c' : Array Value) (hx : a.eval x = .pointer (some ⟨g, 0, none⟩)) (hy : a.eval y = .agg c') (hb : Blk w g ty c) (hi : (P.info? ty).map (·.size) = some c'.size) (hs : c.size = c'.size) (h1 : c'.all (·.oneCell') = true)
    (h : ∀ w', Blk w' g ty c' → Only [g] w w' → wpList P ops Q rest (a.put o.dst undef) w') : wpList P ops Q (o :: rest) a w := by
  refine wpList_want hw fun _ hK => ?_
  have hrun := run_storeVar_row (P := P) w g ty ty c c' hb hi hs h1
  unfold Oper.wp execOp
  simp only [ho, hx, hy, Instr.storeAt, Instr.sureAddr, Sem.run_bind, Sem.run_pure, Result.andThen_ok, hrun]
  exact hK _ _ (h _ (setRow_heap w g c c' ty _ hb) ((Only.refl [g] w).setRow (.inl (by simp)) _))
end

/-- A boxed open. -/
abbrev Bx (w : World) (g : Nat) (x : Opn) : Prop := Blk w g 27 (opA x)
theorem Bx.cells {w : World} {g : Nat} {x : Opn} (h : Bx w g x) : w.cell? ⟨g, 0, none⟩ = some (.int .u32 x.client) ∧ w.cell? ⟨g, 1, none⟩ = some (.int .u32 x.handle) ∧ w.cell? ⟨g, 2, none⟩ = some (.int .u32 x.file) ∧ w.cell? ⟨g, 3, none⟩ = some (.int .u32 x.access) ∧ w.cell? ⟨g, 4, none⟩ = some (.int .u32 (x.deny : Int)) :=
  ⟨h.cell 0, h.cell 1, h.cell 2, h.cell 3, h.cell 4⟩
theorem Bx.kept {S : List Nat} {w w' : World} {g : Nat} {x : Opn} (h : Bx w g x) (k : Only S w w') (hg : g ∉ S) : Bx w' g x := Blk.kept h k hg
theorem Bx.alloc {w : World} {g : Nat} {x : Opn} (h : Bx w g x) (o : Obj) : Bx (w.alloc o) g x := Blk.alloc h o
theorem Bx.new (w : World) (x : Opn) : Bx (w.alloc (.cells #[.int .u32 x.client, .int .u32 x.handle, .int .u32 x.file, .int .u32 x.access, .int .u32 (x.deny : Int)] 27)) w.heap.size x := Blk.new _ _ _
theorem Bx.zero (w : World) : Bx (w.alloc (.cells #[.int .u32 0, .int .u32 0, .int .u32 0, .int .u32 0, .int .u32 0] 27)) w.heap.size zeroO := Blk.new _ _ _
section
variable {ops : Array Oper} {rest : List Oper} {o : Oper} {a : Act} {w : World} {Q : Exit → Act → World → Prop}
theorem wpList_load_op (p : Opn) (hw : Region.wanted o (yielded ops a.tmps) = true) (x : Operand) (ho : o.op = .load 27 x) (g : Nat) (hx : a.eval x = .pointer (some ⟨g, 0, none⟩)) (hb : Blk w g 27 (opA p))
    (h : wpList Try.prog ops Q rest (a.put o.dst (opV p)) w) : wpList Try.prog ops Q (o :: rest) a w :=
  wpList_load_blk hw 27 x ho g hx (opA p).toList _ hb Try.underlying27 rfl size_op h
theorem wpList_store_op (p q : Opn) (hw : Region.wanted o (yielded ops a.tmps) = true) (x y : Operand) (ho : o.op = .store 27 x y) (g : Nat) (hx : a.eval x = .pointer (some ⟨g, 0, none⟩)) (hy : a.eval y = opV p) (hb : Blk w g 27 (opA q))
    (h : ∀ w', Blk w' g 27 (opA p) → Only [g] w w' → wpList Try.prog ops Q rest (a.put o.dst undef) w') : wpList Try.prog ops Q (o :: rest) a w :=
  wpList_store_blk hw 27 x y ho g _ _ hx hy hb size_op rfl (by simp [Value.oneCell']) h
end
theorem results_op {fn : Func} {p u : Tmp} (h : fn.results = #[.cell p 27, .tmp u]) (tmps : Array Value) (w : World) (g : Nat) (hp : tmps.getD p undef = .pointer (some ⟨g, 0, none⟩)) (q : Opn) (hb : Blk w g 27 (opA q)) (v : Value) (hv : tmps.getD u undef = v) :
    (results fn tmps).run Try.prog w = .ok (.tuple #[opV q, v]) w := by
  subst hv
  have hl := run_loadVar_mid (P := Try.prog) w g 0 27 (opA q).toList _ (Blk.range9 hb) Try.underlying27 rfl size_op
  rw [results_cell_tmp h, hp]
  simp only [asAddr, Sem.run_pure, Result.andThen_ok, hl]
  rfl

theorem opn_iff (x y : Opn) : x = y ↔ (x.client = y.client ∧ x.handle = y.handle ∧ x.file = y.file ∧ x.access = y.access ∧ (x.deny : Int) = (y.deny : Int)) :=
  ⟨fun h => by subst h; exact ⟨rfl, rfl, rfl, rfl, rfl⟩, fun ⟨h1, h2, h3, h4, h5⟩ => opn_ext h1 h2 h3 h4 (by omega)⟩
set_option maxRecDepth 100000 in
set_option maxHeartbeats 2000000 in
theorem run_eql_op (p q : Opn) (w : World) : (binOp .eql 27 (opV p) (opV q)).run Try.prog w = .ok (.bool (decide (p = q))) w := by
  have hb := opn_iff p q
  generalize hB : decide (p = q) = B
  obtain ⟨x0, x1, x2, x3, x4⟩ := p
  obtain ⟨y0, y1, y2, y3, y4⟩ := q
  simp only at hb
  unfold opV
  simp only
  generalize (x4 : Int) = s4 at *
  generalize (y4 : Int) = u4 at *
  rw [run_eql_struct]
  have hb := Lib.hid hb
  have hB := Lib.hid hB
  go_simp
  by_cases h0 : x0 = y0
  rotate_left
  · rw [if_neg h0, ← hB.out, decide_eq_false (fun h => h0 (hb.out.1 h).1)]
  rw [if_pos h0]
  by_cases h1 : x1 = y1
  rotate_left
  · rw [if_neg h1, ← hB.out, decide_eq_false (fun h => h1 (hb.out.1 h).2.1)]
  rw [if_pos h1]
  by_cases h2 : x2 = y2
  rotate_left
  · rw [if_neg h2, ← hB.out, decide_eq_false (fun h => h2 (hb.out.1 h).2.2.1)]
  rw [if_pos h2]
  by_cases h3 : x3 = y3
  rotate_left
  · rw [if_neg h3, ← hB.out, decide_eq_false (fun h => h3 (hb.out.1 h).2.2.2.1)]
  rw [if_pos h3]
  by_cases h4 : s4 = u4
  rotate_left
  · rw [if_neg h4, ← hB.out, decide_eq_false (fun h => h4 (hb.out.1 h).2.2.2.2)]
  rw [if_pos h4]
  rw [← hB.out, decide_eq_true (hb.out.2 ⟨h0, h1, h2, h3, h4⟩)]

section
variable {ops : Array Oper} {rest : List Oper} {o : Oper} {a : Act} {w : World} {Q : Exit → Act → World → Prop}
theorem wpList_eql_op (p q : Opn) (hw : Region.wanted o (yielded ops a.tmps) = true) (x y : Operand) (u : TypeId) (ho : o.op = .binOp .eql 27 x y u) (hx : a.eval x = opV p) (hy : a.eval y = opV q) (b : Bool) (hb : decide (p = q) = b)
    (h : wpList Try.prog ops Q rest (a.put o.dst (.bool b)) w) : wpList Try.prog ops Q (o :: rest) a w := by
  subst hb
  refine wpList_want hw fun _ hK => ?_
  have hg := run_eqGuard_agg (P := Try.prog) w .eql 27 x y (opA p) (opA q) (by kernel_rfl)
  have hr : (binOp .eql 27 (.agg (opA p)) (.agg (opA q))).run Try.prog w = .ok (.bool (decide (p = q))) w := run_eql_op p q w
  have hx' : a.eval x = .agg (opA p) := hx
  have hy' : a.eval y = .agg (opA q) := hy
  unfold Oper.wp execOp
  simp only [ho, hx', hy', Sem.run_bind, Sem.run_pure, Result.andThen_ok, hg, hr]
  exact hK _ _ h
theorem wpList_neq_op (p q : Opn) (hw : Region.wanted o (yielded ops a.tmps) = true) (x y : Operand) (u : TypeId) (ho : o.op = .binOp .neq 27 x y u) (hx : a.eval x = opV p) (hy : a.eval y = opV q) (b : Bool) (hb : (!decide (p = q)) = b)
    (h : wpList Try.prog ops Q rest (a.put o.dst (.bool b)) w) : wpList Try.prog ops Q (o :: rest) a w := by
  subst hb
  refine wpList_want hw fun _ hK => ?_
  have hg := run_eqGuard_agg (P := Try.prog) w .neq 27 x y (opA p) (opA q) (by kernel_rfl)
  have hr : (binOp .eql 27 (.agg (opA p)) (.agg (opA q))).run Try.prog w = .ok (.bool (decide (p = q))) w := run_eql_op p q w
  have hx' : a.eval x = .agg (opA p) := hx
  have hy' : a.eval y = .agg (opA q) := hy
  have hn : (binOp .neq 27 (.agg (opA p)) (.agg (opA q))).run Try.prog w = .ok (.bool (!decide (p = q))) w := by
    rw [run_eql_struct] at hr
    rw [run_neq_struct]
    generalize (Op.equalIn 10000 27 (.agg (opA p)) (.agg (opA q))).run Try.prog w = R at hr ⊢
    cases R with
    | ok v w1 =>
      simp only [Result.andThen_ok, Result.ok.injEq, Value.bool.injEq] at hr ⊢
      exact ⟨by rw [hr.1], hr.2⟩
    | halt x w1 => simp [Result.andThen] at hr
  unfold Oper.wp execOp
  simp only [ho, hx', hy', Sem.run_bind, Sem.run_pure, Result.andThen_ok, hg, hn]
  exact hK _ _ h
end

/-! A list's tail and head, as slices. -/
section
variable {α : Type} {enc : α → List Value} {k : Nat} {w : World} {A : Option Addr} {l : List α}
def tailA (A : Option Addr) (c m k : Nat) : Option Addr := if c = m then A else A.map (·.add (m * k))
theorem run_tail {P : Program} (t e : TypeId) (ht : P.underlying t = some (.slice e)) (hz : ∀ w, (Go.sizeOf e).run P w = .ok k w) (A : Option Addr) (n c m : Nat) (x : Int) (hx : x = m) (hm : m ≤ n) (W : World) :
    (Instr.slice t (.slice A n c) (some (.int .i64 x)) none none).run P W = .ok (.slice (tailA A c m k) (n - m) (c - m)) W := by
  subst hx
  have ht' : P.underlying t = some (.slice (P.elem t)) := by simp [Program.elem, ht]
  have he : P.elem t = e := by simp [Program.elem, ht]
  rw [run_slice_l W t _ _ _ ht' .i64 _ (by omega) (by omega), he, hz]
  simp [Result.andThen, sliced, tailA]
theorem run_head {P : Program} (t e : TypeId) (ht : P.underlying t = some (.slice e)) (hz : ∀ w, (Go.sizeOf e).run P w = .ok k w) (A : Option Addr) (n c m : Nat) (x : Int) (hx : x = m) (hm : m ≤ c) (W : World) :
    (Instr.slice t (.slice A n c) none (some (.int .i64 x)) none).run P W = .ok (.slice (tailA A c 0 k) m c) W := by
  subst hx
  have ht' : P.underlying t = some (.slice (P.elem t)) := by simp [Program.elem, ht]
  have he : P.elem t = e := by simp [Program.elem, ht]
  rw [run_slice_h W t _ _ _ ht' .i64 _ (by omega) (by omega), he, hz]
  simp [Result.andThen, sliced, tailA]
theorem tailA_block {A : Option Addr} {c m k : Nat} : ∀ a, tailA A c m k = some a → ∃ b, A = some b ∧ a.block = b.block := by
  intro a h
  unfold tailA at h
  split at h
  · exact ⟨a, h, rfl⟩
  · cases A with
    | none => cases h
    | some b =>
      simp only [Option.map_some, Option.some.injEq] at h
      refine ⟨b, rfl, ?_⟩
      rw [← h]
      unfold Addr.add
      split <;> rfl
theorem Els.tail (h : Els enc k w A l) {c m : Nat} (hc : l.length ≤ c) (hm : m ≤ l.length) : Els enc k w (tailA A c m k) (l.drop m) := by
  by_cases h0 : m = l.length
  · exact .inl (by rw [h0]; simp)
  · obtain ⟨g, o, rfl, hg, hat⟩ := h.get (i := m) (by omega)
    right
    refine ⟨g, o + m * k, ?_, hg, fun i hi j v hv => ?_⟩
    · unfold tailA
      rw [if_neg (by omega)]
      simp [addr_add]
    · have hi' : m + i < l.length := by simp at hi; omega
      have := hat (m + i) hi' j v (by simpa using hv)
      rw [← this]
      congr 2
      rw [Nat.add_mul]
      omega
theorem Els.head (h : Els enc k w A l) {c m : Nat} : Els enc k w (tailA A c 0 k) (l.take m) := by
  rcases h with rfl | ⟨g, o, rfl, hg, hat⟩
  · exact .inl (by simp)
  · right
    refine ⟨g, o, ?_, hg, fun i hi j v hv => ?_⟩
    · unfold tailA
      split
      · rfl
      · simp [addr_add]
    · have hi' : i < l.length := by simp at hi; omega
      exact hat i hi' j v (by simpa using hv)
end
section
variable {P : Program}
theorem held_take {ops : Array Oper} {Q : Exit → Act → World → Prop} {md : Region.Mode} {S : World → Prop} {fuel : Nat} {listed : Array Bool} {a : Act} {w : World} (i : Nat) {oi : Oper} (v : Value) (hi : ops.toList[i]? = some oi)
    (hs : Region.noSelect ops = true) (hf : Region.free md ops listed i = true) (hr : (Region.ready md ops listed).contains i = true)
    (hQ : ∀ c a w, Q (.panic c) (a.put oi.dst v) w → Q (.panic c) a w) (hS : S w) (hy : YieldsIf P ops S oi v a)
    (h : wpAnyH P md ops Q S fuel (listed.setIfInBounds i true) (a.put oi.dst v) w) : wpAnyH P md ops Q S (fuel + 1) listed a w :=
  wpAnyH_take (by simpa using hi) hs hf hr hQ hy hS h
theorem held_step {ops : Array Oper} {Q : Exit → Act → World → Prop} {md : Region.Mode} {S : World → Prop} {fuel : Nat} {listed : Array Bool} {a : Act} {w : World} (i : Nat) {oi : Oper} (hi : ops.toList[i]? = some oi)
    (hr : Region.ready md ops listed = [i])
    (h : ∀ K' : Act → World → Prop, Shut (∀ a w, S w → (S w → wpAnyH P md ops Q S fuel (listed.setIfInBounds i true) a w) → K' a w) → if Region.wanted oi (yielded ops a.tmps) = true then Oper.wp P oi a w K' Q else K' (a.put oi.dst undef) w) :
    wpAnyH P md ops Q S (fuel + 1) listed a w :=
  wpAnyH_ready hr (by simp) (AllReadyH.cons (by simpa using hi) h AllReadyH.nil)
end
section
variable {P : Program}
theorem held_step2 {ops : Array Oper} {Q : Exit → Act → World → Prop} {md : Region.Mode} {S : World → Prop} {fuel : Nat} {listed : Array Bool} {a : Act} {w : World} (i j : Nat) {oi oj : Oper} (hi : ops.toList[i]? = some oi) (hj : ops.toList[j]? = some oj)
    (hr : Region.ready md ops listed = [i, j])
    (h : ∀ K' : Act → World → Prop, Shut (∀ a w, S w → (S w → wpAnyH P md ops Q S fuel (listed.setIfInBounds i true) a w) → K' a w) → if Region.wanted oi (yielded ops a.tmps) = true then Oper.wp P oi a w K' Q else K' (a.put oi.dst undef) w)
    (h' : ∀ K' : Act → World → Prop, Shut (∀ a w, S w → (S w → wpAnyH P md ops Q S fuel (listed.setIfInBounds j true) a w) → K' a w) → if Region.wanted oj (yielded ops a.tmps) = true then Oper.wp P oj a w K' Q else K' (a.put oj.dst undef) w) :
    wpAnyH P md ops Q S (fuel + 1) listed a w :=
  wpAnyH_ready hr (by simp) (AllReadyH.cons (by simpa using hi) h (AllReadyH.cons (by simpa using hj) h' AllReadyH.nil))
end
end Go.Proofs.Ythclpefomhakdaa
