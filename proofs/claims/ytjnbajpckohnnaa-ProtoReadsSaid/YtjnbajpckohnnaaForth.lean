/- A scope in which the run jumps forth to one label, and does not jump again behind it: of no program. -/
import Derived.Scope
import Derived.WalkMore
namespace Go.Proofs.Ytjnbajpckohnnaa

/-- As Q; by a goto to label l: what stands behind the label, from there on without a goto; by any other goto: no way out. -/
def Forth (P : Program) (l : Nat) (rest : Code) (Q : Exit → Act → World → Prop) : Exit → Act → World → Prop
  | .goto l', a, w => l' = l ∧ rest.wp P (Exit.noGoto Q) a w
  | e, a, w => Q e a w

section
variable {P : Program} {a : Act} {w : World} {Q : Exit → Act → World → Prop} {l : Nat} {rest : Code}
theorem Forth.normal : Forth P l rest Q .normal a w = Q .normal a w := rfl
theorem Forth.exit (id : Nat) : Forth P l rest Q (.exit id) a w = Q (.exit id) a w := rfl
theorem Forth.ret : Forth P l rest Q .ret a w = Q .ret a w := rfl
theorem Forth.panic (ch : List PanicEntry) : Forth P l rest Q (.panic ch) a w = Q (.panic ch) a w := rfl
theorem Forth.jump (h : rest.wp P (Exit.noGoto Q) a w) : Forth P l rest Q (.goto l) a w := ⟨rfl, h⟩

theorem wp_scope_forth {c : Code} (l : Nat) (hf : findLabel c l = some rest) (h : c.wp P (Forth P l rest Q) a w) : (Code.scope c).wp P Q a w := by
  intro b k cs
  have hg : gotoIn l (.inScope c :: k) = some (.code rest :: .inScope c :: k) := by simp [gotoIn, hf]
  obtain ⟨e, a1, w1, hq, harr⟩ := h b (.inScope c :: k) cs
  cases e with
  | normal => exact ⟨.normal, a1, w1, hq, .head step_scope (Steps.trans harr (.one step_inScope))⟩
  | exit id => exact ⟨.exit id, a1, w1, hq, fun k' hk => .head step_scope (harr k' (by simp [exitTo, hk]))⟩
  | goto l' =>
    obtain ⟨rfl, hr⟩ := hq
    obtain ⟨e2, a2, w2, hq2, harr2⟩ := hr b (.inScope c :: k) cs
    have hs := harr _ hg
    cases e2 with
    | normal => exact ⟨.normal, a2, w2, hq2, .head step_scope (Steps.trans hs (Steps.trans harr2 (.one step_inScope)))⟩
    | exit id => exact ⟨.exit id, a2, w2, hq2, fun k' hk => .head step_scope (Steps.trans hs (harr2 k' (by simp [exitTo, hk])))⟩
    | goto l' => exact hq2.elim
    | ret => exact ⟨_, a2, w2, hq2, .of_steps (.head step_scope hs) harr2⟩
    | panic ch => exact ⟨_, a2, w2, hq2, .of_steps (.head step_scope hs) harr2⟩
    | outgrown => exact ⟨_, a2, w2, hq2, .of_steps (.head step_scope hs) harr2⟩
  | ret => exact ⟨_, a1, w1, hq, .of_steps (.one step_scope) harr⟩
  | panic ch => exact ⟨_, a1, w1, hq, .of_steps (.one step_scope) harr⟩
  | outgrown => exact ⟨_, a1, w1, hq, .of_steps (.one step_scope) harr⟩
end
end Go.Proofs.Ytjnbajpckohnnaa
