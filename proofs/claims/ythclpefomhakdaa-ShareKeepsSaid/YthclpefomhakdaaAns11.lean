/- What is answered: a list and a number, a list, an open and a number; lists compared. -/
import Derived.Test.YthclpefomhakdaaRow11
namespace Go.Proofs.Ythclpefomhakdaa
open Go.RowKit

def PairAns (w w' : World) (e : Ending) (r : List Opn × Int) : Prop := ∃ v, e = .returned (.tuple #[v, .int .i64 r.2]) ∧ Mine opE 5 27 w w' v r.1
theorem PairAns.no {w w' : World} {k : Int} (h : Only [] w w') : PairAns w w' (.returned (.tuple #[.slice none 0 0, .int .i64 k])) ([], k) := ⟨_, rfl, Mine.start _ _ _ h⟩
def TripAns (w w' : World) (e : Ending) (r : List Opn × Opn × Int) : Prop := ∃ v, e = .returned (.tuple #[v, opV r.2.1, .int .i64 r.2.2]) ∧ Mine opE 5 27 w w' v r.1
theorem addR_1 {l : List Opn} {o : Opn} (h : ¬ (RightP l ∧ validO o)) : addR l o = ([], 1) := by
  have e : addC l o = 1 := by unfold addC; rw [if_pos h]
  rw [addR_no (by rw [e]; decide), e]
theorem addR_8 {l : List Opn} {o : Opn} (h : RightP l ∧ validO o) (h2 : (findK l o.client o.handle).isSome = true) : addR l o = ([], 8) := by
  have e : addC l o = 8 := by unfold addC; rw [if_neg (by simp [h]), if_pos h2]
  rw [addR_no (by rw [e]; decide), e]
theorem addR_16 {l : List Opn} {o : Opn} (h : RightP l ∧ validO o) (h2 : (findK l o.client o.handle).isSome = false) (h3 : 12 ≤ l.length ∨ 4 ≤ mineN l o.client) : addR l o = ([], 16) := by
  have e : addC l o = 16 := by unfold addC; rw [if_neg (by simp [h]), if_neg (by simp [h2]), if_pos h3]
  rw [addR_no (by rw [e]; decide), e]
theorem addR_13 {l : List Opn} {o : Opn} (h : RightP l ∧ validO o) (h2 : (findK l o.client o.handle).isSome = false) (h3 : ¬ (12 ≤ l.length ∨ 4 ≤ mineN l o.client)) (h4 : ∃ y ∈ l, clashO o y) : addR l o = ([], 13) := by
  have e : addC l o = 13 := by unfold addC; rw [if_neg (by simp [h]), if_neg (by simp [h2]), if_neg h3, if_pos h4]
  rw [addR_no (by rw [e]; decide), e]
theorem addR_0 {l : List Opn} {o : Opn} (h : RightP l ∧ validO o) (h2 : (findK l o.client o.handle).isSome = false) (h3 : ¬ (12 ≤ l.length ∨ 4 ≤ mineN l o.client)) (h4 : ¬ ∃ y ∈ l, clashO o y) : addR l o = (l.take (posO l o) ++ o :: l.drop (posO l o), 0) := by
  have e : addC l o = 0 := by unfold addC; rw [if_neg (by simp [h]), if_neg (by simp [h2]), if_neg h3, if_neg h4]
  rw [addR_ok e]
  rfl
theorem results_mid0 {fn : Func} {s p u : Tmp} {ty : TypeId} (h : fn.results = #[.tmp s, .cell p ty, .tmp u]) (tmps : Array Value) (P : Program) (w : World) :
    (results fn tmps).run P w =
      ((asAddr (tmps.getD p undef)).run P w).andThen fun a w₁ => ((loadVar ty a).run P w₁).andThen fun v w₂ => .ok (.tuple #[tmps.getD s undef, v, tmps.getD u undef]) w₂ := by
  simp only [results, h]
  simp [Sem.run_bind, Result.andThen]
theorem results_mid {fn : Func} {s p u : Tmp} (h : fn.results = #[.tmp s, .cell p 27, .tmp u]) (tmps : Array Value) (w : World) (g : Nat) (hp : tmps.getD p undef = .pointer (some ⟨g, 0, none⟩)) (q : Opn) (hb : Blk w g 27 (opA q)) (v x : Value) (hv : tmps.getD u undef = v) (hs : tmps.getD s undef = x) :
    (results fn tmps).run Try.prog w = .ok (.tuple #[x, opV q, v]) w := by
  subst hv hs
  have hl := run_loadVar_mid (P := Try.prog) w g 0 27 (opA q).toList _ (Blk.range9 hb) Try.underlying27 rfl size_op
  rw [results_mid0 h, hp]
  simp only [asAddr, Sem.run_pure, Result.andThen_ok, hl]
  rfl
section
variable {o : Oper} {a : Act} {w : World} {K : Act → World → Prop} {Q : Exit → Act → World → Prop}
theorem wp_store_op (p q : Opn) (x y : Operand) (ho : o.op = .store 27 x y) (g : Nat) (hx : a.eval x = .pointer (some ⟨g, 0, none⟩)) (hy : a.eval y = opV p) (hb : Blk w g 27 (opA q))
    (h : ∀ w', Blk w' g 27 (opA p) → Only [g] w w' → K (a.put o.dst undef) w') : o.wp Try.prog a w K Q := by
  have hrun := run_storeVar_row (P := Try.prog) w g 27 27 (opA q) (opA p) hb size_op rfl (by simp [opA, Value.oneCell'])
  have hy' : a.eval y = .agg (opA p) := hy
  unfold Oper.wp execOp
  simp only [ho, hx, hy', Instr.storeAt, Instr.sureAddr, Sem.run_bind, Sem.run_pure, Result.andThen_ok, hrun]
  exact h _ (setRow_heap w g (opA q) (opA p) 27 _ hb) ((Only.refl [g] w).setRow (.inl (by simp)) _)
end
set_option maxRecDepth 100000 in
set_option maxHeartbeats 2000000 in
theorem rsame_drew (w : World) (A B : Option Addr) (c d : Nat) (l : List Opn) (hA : Els opE 5 w A l) (hB : Els opE 5 w B l) (hl : l.length ≤ 1024) :
    Calls Try.prog 20 #[.slice A l.length c, .slice B l.length d] w fun e w' => e = .returned (.bool true) ∧ ∃ m, w' = w.drewN m := by
  obtain ⟨n, hn⟩ : ∃ n, n = l.length := ⟨_, rfl⟩
  rw [← hn] at hl ⊢
  replace hn := Lib.hid hn
  go_enter Try.func20, Try.ntmps20
  go_wp2_with fail
  go_loopw [5] (fun i wr => ∃ k m : Nat, k ≤ n ∧ i = .int .i64 k ∧ wr = w.drewN m) (fun i _ => n - (intOf i).toNat)
  case atStart => exact ⟨0, 0, by omega, rfl, rfl⟩
  case round =>
    obtain ⟨k, m, hk, rfl, rfl⟩ := hrel
    by_cases hlt : k < n
    · have hk' : k < l.length := by have := hn.out; omega
      obtain ⟨g, o, rfl, _, hat⟩ := hA.get hk'
      obtain ⟨g', o', rfl, _, hat'⟩ := hB.get hk'
      obtain ⟨c0, c1, c2, c3, c4⟩ := ops_at hat hk'
      obtain ⟨d0, d1, d2, d3, d4⟩ := ops_at hat' hk'
      generalize l[k] = f at *
      obtain ⟨f0, f1, f2, f3, f4⟩ := f
      simp only at c0 c1 c2 c3 c4 d0 d1 d2 d3 d4
      clear hat hat' hA hB
      go_wp2_with fail
      go_quiet (fail)
      go_wp2_with fail
      go_roundw
      case rel => exact ⟨k + 1, _, by omega, by go_num, rfl⟩
      case measure => simp [intOf]; omega
    · clear hA hB
      go_wp2
      go_ret
      exact ⟨rfl, m, rfl⟩
theorem rsame_yes (w : World) (A B : Option Addr) (c d : Nat) (l : List Opn) (hA : Els opE 5 w A l) (hB : Els opE 5 w B l) (hl : l.length ≤ 1024) :
    Calls Try.prog 20 #[.slice A l.length c, .slice B l.length d] w fun e w' => e = .returned (.bool true) ∧ Only [] w w' :=
  (rsame_drew w A B c d l hA hB hl).mono fun e w' ⟨he, m, hm⟩ => ⟨he, by rw [hm]; exact (Only.refl [] w).drewN m⟩
end Go.Proofs.Ythclpefomhakdaa
