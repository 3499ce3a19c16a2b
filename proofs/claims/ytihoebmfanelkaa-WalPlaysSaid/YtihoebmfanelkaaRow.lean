/- A slice's literal of one struct of many cells: of no program. -/
import Derived.Test.YtihoebmfanelkaaApp
import Derived.Deep.MidRow
import Derived.Deep.WholeRow
import Derived.Deep.RegionHeld3
import Derived.Deep.AppendLies
import Derived.Laws.CopyRow
namespace Go.Proofs.Ytihoebmfanelkaa
open Go.RowKit

theorem fold_set : ∀ (l : List Value) (n : Nat) (A : Array Value), n + l.length ≤ A.size →
    (l.zipIdx n).foldl (fun a x => a.setIfInBounds (0 + x.2) x.1) A = (A.toList.take n ++ l ++ A.toList.drop (n + l.length)).toArray
  | [], n, A, _ => by simp
  | v :: r, n, A, h => by
    rw [List.zipIdx_cons, List.foldl_cons]
    rw [fold_set r (n + 1) _ (by simp at h ⊢; omega)]
    have := list_seg_step A.toList n v r (by simp at h ⊢; omega)
    simp only [Nat.zero_add, Array.toList_setIfInBounds, List.length_cons]
    rw [this]

theorem fill_whole (cs : List Value) (A : Array Value) (h : A.size = cs.length) : Instr.fill (fun i => some (i * cs.length, cs.length)) A [(0, .agg cs.toArray)] = some cs.toArray := by
  have hf := fold_set cs 0 A (by omega)
  rw [List.take_zero, List.nil_append, Nat.zero_add, List.drop_of_length_le (by simp; omega), List.append_nil] at hf
  have hz : cs.toArray.zipIdx.foldl (fun cs (x : Value × Nat) => cs.setIfInBounds (0 + x.2) x.1) A = cs.toArray := by
    simpa using hf
  unfold Instr.fill
  simp only [Nat.zero_mul, Value.cells, List.size_toArray, ne_eq, not_true_eq_false, Nat.zero_add, decide_false, Bool.false_or]
  rw [if_neg (by simp; omega)]
  unfold Instr.fill
  have hz' := hz
  simp only [Nat.zero_add] at hz'
  rw [hz']

section
variable {P : Program}
theorem run_buildSlice_whole (w : World) (t e : TypeId) (cs : List Value) (Z : Array Value) (hu : P.underlying t = some (.slice e)) (hi : (P.info? e).map (fun i => (i.zero, i.size)) = some (some (.agg Z), cs.length))
    (hpos : 0 < cs.length) (hfew : cs.length ≤ 16777216) :
    (Instr.buildSlice t 1 #[(0, .agg cs.toArray)]).run P w = .ok (.slice (some ⟨w.heap.size, 0, none⟩) 1 1) (w.alloc (.cells cs.toArray e)) := by
  cases hq : P.info? e with
  | none => simp [hq] at hi
  | some i =>
    simp [hq] at hi
    obtain ⟨h1, h2⟩ := hi
    have hne : ¬ cs.length = 0 := by omega
    have hf : ∀ A : Array Value, A.size = cs.length → Instr.fill (fun i => some (i * cs.length, cs.length)) A [(0, .agg cs.toArray)] = some cs.toArray := fill_whole cs
    have hgt : ¬ 16777216 < cs.length := by omega
    simp [Instr.buildSlice, run_underlying hu, sizeOf, typeInfo, hq, h2, zeroValue, h1, hne, newRow, hf, hgt]

/-- As one step of a region that draws its order. -/
theorem step_buildSlice_whole {ops : Array Oper} {o : Oper} {a : Act} {w : World} {K : Act → World → Prop} {Q : Exit → Act → World → Prop} {E : Prop} (hgd : o.guard = none) (t : TypeId) (x : Operand) (ho : o.op = .buildSlice t 1 #[(0, x)])
    (e : TypeId) (cs : List Value) (Z : Array Value) (hu : P.underlying t = some (.slice e)) (hi : (P.info? e).map (fun i => (i.zero, i.size)) = some (some (.agg Z), cs.length)) (hpos : 0 < cs.length) (hfew : cs.length ≤ 16777216)
    (hx : a.eval x = .agg cs.toArray) (h : K (a.put o.dst (.slice (some ⟨w.heap.size, 0, none⟩) 1 1)) (w.alloc (.cells cs.toArray e))) :
    if Region.wanted o (yielded ops a.tmps) = true then Oper.wp P o a w K Q else E := by
  have hw : Region.wanted o (yielded ops a.tmps) = true := by simp [Region.wanted, hgd]
  rw [if_pos hw]
  have hrun := run_buildSlice_whole (P := P) w t e cs Z hu hi hpos hfew
  unfold Oper.wp
  simp [execOp, ho, hx, hrun, Result.andThen]
  exact h

/-- A cell's load as one step. -/
theorem step_load_cell {ops : Array Oper} {o : Oper} {a : Act} {w : World} {K : Act → World → Prop} {Q : Exit → Act → World → Prop} {E : Prop} (hgd : o.guard = none) (t : TypeId) (x : Operand) (ho : o.op = .load t x)
    (b off : Nat) (v : Value) (hx : a.eval x = .pointer (some ⟨b, off, none⟩)) (hrun : (Instr.loadAt t (.pointer (some ⟨b, off, none⟩))).run P w = .ok v w) (h : K (a.put o.dst v) w) :
    if Region.wanted o (yielded ops a.tmps) = true then Oper.wp P o a w K Q else E := by
  have hw : Region.wanted o (yielded ops a.tmps) = true := by simp [Region.wanted, hgd]
  rw [if_pos hw]
  unfold Oper.wp
  simp [execOp, ho, hx, hrun, Result.andThen]
  exact h

/-! The moves of a walk through a region that draws its order, an operation found in the region's list: so it stands written out. -/
theorem held_take {ops : Array Oper} {Q : Exit → Act → World → Prop} {md : Region.Mode} {S : World → Prop} {fuel : Nat} {listed : Array Bool} {a : Act} {w : World} (i : Nat) {oi : Oper} (v : Value) (hi : ops.toList[i]? = some oi)
    (hs : Region.noSelect ops = true) (hf : Region.free md ops listed i = true) (hr : (Region.ready md ops listed).contains i = true)
    (hQ : ∀ c a w, Q (.panic c) (a.put oi.dst v) w → Q (.panic c) a w) (hS : S w) (hy : YieldsIf P ops S oi v a)
    (h : wpAnyH P md ops Q S fuel (listed.setIfInBounds i true) (a.put oi.dst v) w) : wpAnyH P md ops Q S (fuel + 1) listed a w :=
  wpAnyH_take (by simpa using hi) hs hf hr hQ hy hS h
theorem held_step {ops : Array Oper} {Q : Exit → Act → World → Prop} {md : Region.Mode} {S : World → Prop} {fuel : Nat} {listed : Array Bool} {a : Act} {w : World} (i : Nat) {oi : Oper} (hi : ops.toList[i]? = some oi)
    (hr : Region.ready md ops listed = [i])
    (h : ∀ K' : Act → World → Prop, Shut (∀ a w, S w → (S w → wpAnyH P md ops Q S fuel (listed.setIfInBounds i true) a w) → K' a w) → if Region.wanted oi (yielded ops a.tmps) = true then Oper.wp P oi a w K' Q else K' (a.put oi.dst undef) w) :
    wpAnyH P md ops Q S (fuel + 1) listed a w :=
  wpAnyH_ready hr (by simp) (AllReadyH.cons (by simpa using hi) h AllReadyH.nil)
theorem held_step2 {ops : Array Oper} {Q : Exit → Act → World → Prop} {md : Region.Mode} {S : World → Prop} {fuel : Nat} {listed : Array Bool} {a : Act} {w : World} (i j : Nat) {oi oj : Oper} (hi : ops.toList[i]? = some oi) (hj : ops.toList[j]? = some oj)
    (hr : Region.ready md ops listed = [i, j])
    (h : ∀ K' : Act → World → Prop, Shut (∀ a w, S w → (S w → wpAnyH P md ops Q S fuel (listed.setIfInBounds i true) a w) → K' a w) → if Region.wanted oi (yielded ops a.tmps) = true then Oper.wp P oi a w K' Q else K' (a.put oi.dst undef) w)
    (h' : ∀ K' : Act → World → Prop, Shut (∀ a w, S w → (S w → wpAnyH P md ops Q S fuel (listed.setIfInBounds j true) a w) → K' a w) → if Region.wanted oj (yielded ops a.tmps) = true then Oper.wp P oj a w K' Q else K' (a.put oj.dst undef) w) :
    wpAnyH P md ops Q S (fuel + 1) listed a w :=
  wpAnyH_ready hr (by simp) (AllReadyH.cons (by simpa using hi) h (AllReadyH.cons (by simpa using hj) h' AllReadyH.nil))
end
end Go.Proofs.Ytihoebmfanelkaa
