/- Packets compared. -/
import Derived.Test.YtjnbajpckohnnaaWhole9
import Derived.Test.YtjnbajpckohnnaaChecked
import Derived.Tactics
import Derived.Tactics2
import Derived.StillTactics
import Derived.StillTailTactics
import Derived.RegionTactic
import Derived.WalkKit
import Derived.Deep.MidRow
import Derived.Deep.WholeRow
import Derived.WalkLawsBesides
import Derived.WalkSpells
import Derived.Outline
import Derived.Laws.Pointers
import Derived.Laws.Small
import Derived.Laws.Build
import Derived.Laws.Cover3
import Derived.Laws.StructEq
import Derived.KernelRfl
import Derived.Lib.Hide
import Derived.BigQuiet
import Derived.BigRegion
import Derived.OwnWalk
import Derived.LoopTactic
import Derived.Laws.ResultCell
namespace Go.Proofs.Ytjnbajpckohnnaa
open Go.RowKit


theorem list_same (a b : ByteArray) : (a.toList = b.toList) = (a = b) := by
  refine propext ⟨fun h => ?_, fun h => by rw [h]⟩
  rw [ByteArray.toList_eq, ByteArray.toList_eq] at h
  obtain ⟨⟨x⟩⟩ := a
  obtain ⟨⟨y⟩⟩ := b
  simp only at h
  rw [h]
set_option maxRecDepth 100000 in
set_option maxHeartbeats 2000000 in
theorem run_eql_pk (p q : Pk) (w : World) : (binOp .eql 27 (pkV p) (pkV q)).run Try.prog w = .ok (.bool (decide (p = q))) w := by
  have hb := pk_ext p q
  generalize hB : decide (p = q) = B
  obtain ⟨x0, x1, x2, x3, x4, x5, x6, x7, x8, x9, x10, x11, x12, x13, x14, x15, x16, x17, x18, x19⟩ := p
  obtain ⟨y0, y1, y2, y3, y4, y5, y6, y7, y8, y9, y10, y11, y12, y13, y14, y15, y16, y17, y18, y19⟩ := q
  simp only at hb
  rw [run_eql_struct]
  have hb := Lib.hid hb
  have hB := Lib.hid hB
  go_simp
  simp only [list_same]
  by_cases h0 : x0 = y0
  rotate_left
  · rw [if_neg h0, ← hB.out, decide_eq_false (fun h => by have := hb.out.1 h; exact h0 (by simp only [this]))]
  rw [if_pos h0]
  by_cases h1 : x1 = y1
  rotate_left
  · rw [if_neg h1, ← hB.out, decide_eq_false (fun h => by have := hb.out.1 h; exact h1 (by simp only [this]))]
  rw [if_pos h1]
  by_cases h2 : x2 = y2
  rotate_left
  · rw [if_neg h2, ← hB.out, decide_eq_false (fun h => by have := hb.out.1 h; exact h2 (by simp only [this]))]
  rw [if_pos h2]
  by_cases h3 : x3 = y3
  rotate_left
  · rw [if_neg h3, ← hB.out, decide_eq_false (fun h => by have := hb.out.1 h; exact h3 (by simp only [this]))]
  rw [if_pos h3]
  by_cases h4 : x4 = y4
  rotate_left
  · rw [if_neg h4, ← hB.out, decide_eq_false (fun h => by have := hb.out.1 h; exact h4 (by simp only [this]))]
  rw [if_pos h4]
  by_cases h5 : x5 = y5
  rotate_left
  · rw [if_neg h5, ← hB.out, decide_eq_false (fun h => by have := hb.out.1 h; exact h5 (by simp only [this]))]
  rw [if_pos h5]
  by_cases h6 : x6 = y6
  rotate_left
  · rw [if_neg h6, ← hB.out, decide_eq_false (fun h => by have := hb.out.1 h; exact h6 (by simp only [this]))]
  rw [if_pos h6]
  by_cases h7 : x7 = y7
  rotate_left
  · rw [if_neg h7, ← hB.out, decide_eq_false (fun h => by have := hb.out.1 h; exact h7 (by simp only [this]))]
  rw [if_pos h7]
  by_cases h8 : x8 = y8
  rotate_left
  · rw [if_neg h8, ← hB.out, decide_eq_false (fun h => by have := hb.out.1 h; exact h8 (by simp only [this]))]
  rw [if_pos h8]
  by_cases h9 : x9 = y9
  rotate_left
  · rw [if_neg h9, ← hB.out, decide_eq_false (fun h => by have := hb.out.1 h; exact h9 (by simp only [this]))]
  rw [if_pos h9]
  by_cases h10 : x10 = y10
  rotate_left
  · rw [if_neg h10, ← hB.out, decide_eq_false (fun h => by have := hb.out.1 h; exact h10 (by simp only [this]))]
  rw [if_pos h10]
  by_cases h11 : x11 = y11
  rotate_left
  · rw [if_neg h11, ← hB.out, decide_eq_false (fun h => by have := hb.out.1 h; exact h11 (by simp only [this]))]
  rw [if_pos h11]
  by_cases h12 : x12 = y12
  rotate_left
  · rw [if_neg h12, ← hB.out, decide_eq_false (fun h => by have := hb.out.1 h; exact h12 (by simp only [this]))]
  rw [if_pos h12]
  by_cases h13 : x13 = y13
  rotate_left
  · rw [if_neg h13, ← hB.out, decide_eq_false (fun h => by have := hb.out.1 h; exact h13 (by simp only [this]))]
  rw [if_pos h13]
  by_cases h14 : x14 = y14
  rotate_left
  · rw [if_neg h14, ← hB.out, decide_eq_false (fun h => by have := hb.out.1 h; exact h14 (by simp only [this]))]
  rw [if_pos h14]
  by_cases h15 : x15 = y15
  rotate_left
  · rw [if_neg h15, ← hB.out, decide_eq_false (fun h => by have := hb.out.1 h; exact h15 (by simp only [this]))]
  rw [if_pos h15]
  by_cases h16 : x16 = y16
  rotate_left
  · rw [if_neg h16, ← hB.out, decide_eq_false (fun h => by have := hb.out.1 h; exact h16 (by simp only [this]))]
  rw [if_pos h16]
  by_cases h17 : x17 = y17
  rotate_left
  · rw [if_neg h17, ← hB.out, decide_eq_false (fun h => by have := hb.out.1 h; exact h17 (by simp only [this]))]
  rw [if_pos h17]
  by_cases h18 : x18 = y18
  rotate_left
  · rw [if_neg h18, ← hB.out, decide_eq_false (fun h => by have := hb.out.1 h; exact h18 (by simp only [this]))]
  rw [if_pos h18]
  by_cases h19 : x19 = y19
  rotate_left
  · rw [if_neg h19, ← hB.out, decide_eq_false (fun h => by have := hb.out.1 h; exact h19 (by simp only [this]))]
  rw [if_pos h19]
  rw [← hB.out, decide_eq_true (hb.out.2 ⟨h0, h1, h2, h3, h4, h5, h6, h7, h8, h9, h10, h11, h12, h13, h14, h15, h16, h17, h18, h19⟩)]

section
variable {ops : Array Oper} {rest : List Oper} {o : Oper} {a : Act} {w : World} {Q : Exit → Act → World → Prop}
theorem wpList_eql_pk (p q : Pk) (hw : Region.wanted o (yielded ops a.tmps) = true) (x y : Operand) (u : TypeId) (ho : o.op = .binOp .eql 27 x y u) (hx : a.eval x = pkV p) (hy : a.eval y = pkV q) (b : Bool) (hb : decide (p = q) = b)
    (h : wpList Try.prog ops Q rest (a.put o.dst (.bool b)) w) : wpList Try.prog ops Q (o :: rest) a w := by
  subst hb
  refine wpList_want hw fun _ hK => ?_
  have hg := run_eqGuard_agg (P := Try.prog) w .eql 27 x y (pkA p) (pkA q) (by kernel_rfl)
  have hr := run_eql_pk p q w
  unfold Oper.wp execOp
  simp only [ho, hx, hy, Sem.run_bind, Sem.run_pure, Result.andThen_ok, hg, hr]
  exact hK _ _ h
theorem wpList_neq_pk (p q : Pk) (hw : Region.wanted o (yielded ops a.tmps) = true) (x y : Operand) (u : TypeId) (ho : o.op = .binOp .neq 27 x y u) (hx : a.eval x = pkV p) (hy : a.eval y = pkV q) (b : Bool) (hb : (!decide (p = q)) = b)
    (h : wpList Try.prog ops Q rest (a.put o.dst (.bool b)) w) : wpList Try.prog ops Q (o :: rest) a w := by
  subst hb
  refine wpList_want hw fun _ hK => ?_
  have hg := run_eqGuard_agg (P := Try.prog) w .neq 27 x y (pkA p) (pkA q) (by kernel_rfl)
  have hr := run_eql_pk p q w
  have hn : (binOp .neq 27 (pkV p) (pkV q)).run Try.prog w = .ok (.bool (!decide (p = q))) w := by
    rw [run_eql_struct] at hr
    rw [run_neq_struct]
    generalize (Op.equalIn 10000 27 (pkV p) (pkV q)).run Try.prog w = R at hr ⊢
    cases R with
    | ok v w1 =>
      simp only [Result.andThen_ok, Result.ok.injEq, Value.bool.injEq] at hr ⊢
      exact ⟨by rw [hr.1], hr.2⟩
    | halt x w1 => simp [Result.andThen] at hr
  unfold Oper.wp execOp
  simp only [ho, hx, hy, Sem.run_bind, Sem.run_pure, Result.andThen_ok, hg, hn]
  exact hK _ _ h
end

end Go.Proofs.Ytjnbajpckohnnaa
