/- Inodes compared; parts of a list of inodes; a world that was drawn upon. -/
import Derived.Test.YteiekfccfddmjaaDoorName10
import Derived.Test.YteiekfccfddmjaaDoorRef10
import Derived.Deep.RegionHeld3
namespace Go.Proofs.YteiekfccfddmjaaDoor
open Go.RowKit

theorem Only.undrew {S : List Nat} {w w' : World} (h : Only S w.drew w') : Only S w w' := ⟨h.os, h.tape, h.output, h.size, h.block⟩

theorem list_same (a b : ByteArray) : (a.toList = b.toList) = (a = b) := by
  refine propext ⟨fun h => ?_, fun h => by rw [h]⟩
  rw [ByteArray.toList_eq, ByteArray.toList_eq] at h
  obtain ⟨⟨x⟩⟩ := a
  obtain ⟨⟨y⟩⟩ := b
  simp only at h
  rw [h]
theorem nd_iff (x y : Nd) : x = y ↔ (x.id = y.id ∧ x.par = y.par ∧ strOf x.name = strOf y.name ∧ x.dir = y.dir ∧ x.size = y.size) :=
  ⟨fun h => by subst h; exact ⟨rfl, rfl, rfl, rfl, rfl⟩, fun ⟨h1, h2, h3, h4, h5⟩ => nd_ext h1 h2 (strOf_inj h3) h4 h5⟩
set_option maxRecDepth 100000 in
set_option maxHeartbeats 2000000 in
theorem run_eql_nd (p q : Nd) (w : World) : (binOp .eql 28 (ndV p) (ndV q)).run Tryd.prog w = .ok (.bool (decide (p = q))) w := by
  have hb := nd_iff p q
  generalize hB : decide (p = q) = B
  obtain ⟨x0, x1, x2, x3, x4⟩ := p
  obtain ⟨y0, y1, y2, y3, y4⟩ := q
  simp only at hb
  unfold ndV
  simp only
  generalize strOf x2 = s2 at *
  generalize strOf y2 = u2 at *
  rw [run_eql_struct]
  have hb := Lib.hid hb
  have hB := Lib.hid hB
  go_simp
  simp only [list_same]
  by_cases h0 : x0 = y0
  rotate_left
  · rw [if_neg h0, ← hB.out, decide_eq_false (fun h => h0 (hb.out.1 h).1)]
  rw [if_pos h0]
  by_cases h1 : x1 = y1
  rotate_left
  · rw [if_neg h1, ← hB.out, decide_eq_false (fun h => h1 (hb.out.1 h).2.1)]
  rw [if_pos h1]
  by_cases h2 : s2 = u2
  rotate_left
  · rw [if_neg h2, ← hB.out, decide_eq_false (fun h => h2 (hb.out.1 h).2.2.1)]
  rw [if_pos h2]
  by_cases h3 : x3 = y3
  rotate_left
  · rw [if_neg h3, ← hB.out, decide_eq_false (fun h => h3 (hb.out.1 h).2.2.2.1)]
  rw [if_pos h3]
  by_cases h4 : x4 = y4
  rotate_left
  · rw [if_neg h4, ← hB.out, decide_eq_false (fun h => h4 (hb.out.1 h).2.2.2.2)]
  rw [if_pos h4]
  rw [← hB.out, decide_eq_true (hb.out.2 ⟨h0, h1, h2, h3, h4⟩)]

section
variable {ops : Array Oper} {rest : List Oper} {o : Oper} {a : Act} {w : World} {Q : Exit → Act → World → Prop}
theorem wpList_eql_nd (p q : Nd) (hw : Region.wanted o (yielded ops a.tmps) = true) (x y : Operand) (u : TypeId) (ho : o.op = .binOp .eql 28 x y u) (hx : a.eval x = ndV p) (hy : a.eval y = ndV q) (b : Bool) (hb : decide (p = q) = b)
    (h : wpList Tryd.prog ops Q rest (a.put o.dst (.bool b)) w) : wpList Tryd.prog ops Q (o :: rest) a w := by
  subst hb
  refine wpList_want hw fun _ hK => ?_
  have hg := run_eqGuard_agg (P := Tryd.prog) w .eql 28 x y (ndA p) (ndA q) (by kernel_rfl)
  have hr : (binOp .eql 28 (.agg (ndA p)) (.agg (ndA q))).run Tryd.prog w = .ok (.bool (decide (p = q))) w := run_eql_nd p q w
  have hx' : a.eval x = .agg (ndA p) := hx
  have hy' : a.eval y = .agg (ndA q) := hy
  unfold Oper.wp execOp
  simp only [ho, hx', hy', Sem.run_bind, Sem.run_pure, Result.andThen_ok, hg, hr]
  exact hK _ _ h
theorem wpList_neq_nd (p q : Nd) (hw : Region.wanted o (yielded ops a.tmps) = true) (x y : Operand) (u : TypeId) (ho : o.op = .binOp .neq 28 x y u) (hx : a.eval x = ndV p) (hy : a.eval y = ndV q) (b : Bool) (hb : (!decide (p = q)) = b)
    (h : wpList Tryd.prog ops Q rest (a.put o.dst (.bool b)) w) : wpList Tryd.prog ops Q (o :: rest) a w := by
  subst hb
  refine wpList_want hw fun _ hK => ?_
  have hg := run_eqGuard_agg (P := Tryd.prog) w .neq 28 x y (ndA p) (ndA q) (by kernel_rfl)
  have hr : (binOp .eql 28 (.agg (ndA p)) (.agg (ndA q))).run Tryd.prog w = .ok (.bool (decide (p = q))) w := run_eql_nd p q w
  have hx' : a.eval x = .agg (ndA p) := hx
  have hy' : a.eval y = .agg (ndA q) := hy
  have hn : (binOp .neq 28 (.agg (ndA p)) (.agg (ndA q))).run Tryd.prog w = .ok (.bool (!decide (p = q))) w := by
    rw [run_eql_struct] at hr
    rw [run_neq_struct]
    generalize (Op.equalIn 10000 28 (.agg (ndA p)) (.agg (ndA q))).run Tryd.prog w = R at hr ⊢
    cases R with
    | ok v w1 =>
      simp only [Result.andThen_ok, Result.ok.injEq, Value.bool.injEq] at hr ⊢
      exact ⟨by rw [hr.1], hr.2⟩
    | halt x w1 => simp [Result.andThen] at hr
  unfold Oper.wp execOp
  simp only [ho, hx', hy', Sem.run_bind, Sem.run_pure, Result.andThen_ok, hg, hn]
  exact hK _ _ h
end

/-! A list's tail and head, as slices. -/
section
variable {α : Type} {enc : α → List Value} {k : Nat} {w : World} {A : Option Addr} {l : List α}
def tailA (A : Option Addr) (c m k : Nat) : Option Addr := if c = m then A else A.map (·.add (m * k))
theorem run_tail {P : Program} (t e : TypeId) (ht : P.underlying t = some (.slice e)) (hz : ∀ w, (Go.sizeOf e).run P w = .ok k w) (A : Option Addr) (n c m : Nat) (x : Int) (hx : x = m) (hm : m ≤ n) (W : World) :
    (Instr.slice t (.slice A n c) (some (.int .i64 x)) none none).run P W = .ok (.slice (tailA A c m k) (n - m) (c - m)) W := by
  subst hx
  have ht' : P.underlying t = some (.slice (P.elem t)) := by simp [Program.elem, ht]
  have he : P.elem t = e := by simp [Program.elem, ht]
  rw [run_slice_l W t _ _ _ ht' .i64 _ (by omega) (by omega), he, hz]
  simp [Result.andThen, sliced, tailA]
theorem run_head {P : Program} (t e : TypeId) (ht : P.underlying t = some (.slice e)) (hz : ∀ w, (Go.sizeOf e).run P w = .ok k w) (A : Option Addr) (n c m : Nat) (x : Int) (hx : x = m) (hm : m ≤ c) (W : World) :
    (Instr.slice t (.slice A n c) none (some (.int .i64 x)) none).run P W = .ok (.slice (tailA A c 0 k) m c) W := by
  subst hx
  have ht' : P.underlying t = some (.slice (P.elem t)) := by simp [Program.elem, ht]
  have he : P.elem t = e := by simp [Program.elem, ht]
  rw [run_slice_h W t _ _ _ ht' .i64 _ (by omega) (by omega), he, hz]
  simp [Result.andThen, sliced, tailA]
theorem tailA_block {A : Option Addr} {c m k : Nat} : ∀ a, tailA A c m k = some a → ∃ b, A = some b ∧ a.block = b.block := by
  intro a h
  unfold tailA at h
  split at h
  · exact ⟨a, h, rfl⟩
  · cases A with
    | none => cases h
    | some b =>
      simp only [Option.map_some, Option.some.injEq] at h
      refine ⟨b, rfl, ?_⟩
      rw [← h]
      unfold Addr.add
      split <;> rfl
theorem Els.tail (h : Els enc k w A l) {c m : Nat} (hc : l.length ≤ c) (hm : m ≤ l.length) : Els enc k w (tailA A c m k) (l.drop m) := by
  by_cases h0 : m = l.length
  · exact .inl (by rw [h0]; simp)
  · obtain ⟨g, o, rfl, hg, hat⟩ := h.get (i := m) (by omega)
    right
    refine ⟨g, o + m * k, ?_, hg, fun i hi j v hv => ?_⟩
    · unfold tailA
      rw [if_neg (by omega)]
      simp [addr_add]
    · have hi' : m + i < l.length := by simp at hi; omega
      have := hat (m + i) hi' j v (by simpa using hv)
      rw [← this]
      congr 2
      rw [Nat.add_mul]
      omega
theorem Els.head (h : Els enc k w A l) {c m : Nat} : Els enc k w (tailA A c 0 k) (l.take m) := by
  rcases h with rfl | ⟨g, o, rfl, hg, hat⟩
  · exact .inl (by simp)
  · right
    refine ⟨g, o, ?_, hg, fun i hi j v hv => ?_⟩
    · unfold tailA
      split
      · rfl
      · simp [addr_add]
    · have hi' : i < l.length := by simp at hi; omega
      exact hat i hi' j v (by simpa using hv)
end
section
variable {P : Program}
theorem held_take {ops : Array Oper} {Q : Exit → Act → World → Prop} {md : Region.Mode} {S : World → Prop} {fuel : Nat} {listed : Array Bool} {a : Act} {w : World} (i : Nat) {oi : Oper} (v : Value) (hi : ops.toList[i]? = some oi)
    (hs : Region.noSelect ops = true) (hf : Region.free md ops listed i = true) (hr : (Region.ready md ops listed).contains i = true)
    (hQ : ∀ c a w, Q (.panic c) (a.put oi.dst v) w → Q (.panic c) a w) (hS : S w) (hy : YieldsIf P ops S oi v a)
    (h : wpAnyH P md ops Q S fuel (listed.setIfInBounds i true) (a.put oi.dst v) w) : wpAnyH P md ops Q S (fuel + 1) listed a w :=
  wpAnyH_take (by simpa using hi) hs hf hr hQ hy hS h
theorem held_step {ops : Array Oper} {Q : Exit → Act → World → Prop} {md : Region.Mode} {S : World → Prop} {fuel : Nat} {listed : Array Bool} {a : Act} {w : World} (i : Nat) {oi : Oper} (hi : ops.toList[i]? = some oi)
    (hr : Region.ready md ops listed = [i])
    (h : ∀ K' : Act → World → Prop, Shut (∀ a w, S w → (S w → wpAnyH P md ops Q S fuel (listed.setIfInBounds i true) a w) → K' a w) → if Region.wanted oi (yielded ops a.tmps) = true then Oper.wp P oi a w K' Q else K' (a.put oi.dst undef) w) :
    wpAnyH P md ops Q S (fuel + 1) listed a w :=
  wpAnyH_ready hr (by simp) (AllReadyH.cons (by simpa using hi) h AllReadyH.nil)
end
theorem size_nd' : ∀ w, (Go.sizeOf 28).run Tryd.prog w = .ok 5 w := Tryd.sizeOf28
end Go.Proofs.YteiekfccfddmjaaDoor
