/- A struct that is stored whole: its block, and what has turned. -/
import Derived.Test.YtjogdilkdnnhnaaAlive8
namespace Go.Proofs.Ytjogdilkdnnhnaa
open Go.RowKit

theorem Blk.store7 {w : World} {g : Nat} {ty : TypeId} {c0 c1 c2 c3 c4 c5 c6 a b c d e f i : Value} (h : Blk w g ty #[c0, c1, c2, c3, c4, c5, c6]) :
    Blk (((((((w.setCell ⟨g, 0, none⟩ a).setCell ⟨g, 1, none⟩ b).setCell ⟨g, 2, none⟩ c).setCell ⟨g, 3, none⟩ d).setCell ⟨g, 4, none⟩ e).setCell ⟨g, 5, none⟩ f).setCell ⟨g, 6, none⟩ i) g ty #[a, b, c, d, e, f, i] := by
  have := ((((((h.set 0 a).set 1 b).set 2 c).set 3 d).set 4 e).set 5 f).set 6 i
  simpa using this
theorem Only.store7 {w w0 : World} {S : List Nat} {g : Nat} {a b c d e f i : Value} (h : Only S w0 w) (hg : g ∈ S ∨ w0.heap.size ≤ g) :
    Only S w0 (((((((w.setCell ⟨g, 0, none⟩ a).setCell ⟨g, 1, none⟩ b).setCell ⟨g, 2, none⟩ c).setCell ⟨g, 3, none⟩ d).setCell ⟨g, 4, none⟩ e).setCell ⟨g, 5, none⟩ f).setCell ⟨g, 6, none⟩ i) :=
  ((((((h.setCell hg a).setCell hg b).setCell hg c).setCell hg d).setCell hg e).setCell hg f).setCell hg i

theorem Blk.store3 {w : World} {g : Nat} {ty : TypeId} {c0 c1 c2 a b c : Value} (h : Blk w g ty #[c0, c1, c2]) : Blk (((w.setCell ⟨g, 0, none⟩ a).setCell ⟨g, 1, none⟩ b).setCell ⟨g, 2, none⟩ c) g ty #[a, b, c] := by
  have := ((h.set 0 a).set 1 b).set 2 c
  simpa using this
theorem Only.store3 {w w0 : World} {S : List Nat} {g : Nat} {a b c : Value} (h : Only S w0 w) (hg : g ∈ S ∨ w0.heap.size ≤ g) : Only S w0 (((w.setCell ⟨g, 0, none⟩ a).setCell ⟨g, 1, none⟩ b).setCell ⟨g, 2, none⟩ c) :=
  ((h.setCell hg a).setCell hg b).setCell hg c
theorem Blk.free3 {w : World} {g : Nat} {ty : TypeId} {cs : Array Value} (h : Blk w g ty cs) : w.frozen? ⟨g, 0, none⟩ = false ∧ w.frozen? ⟨g, 1, none⟩ = false ∧ w.frozen? ⟨g, 2, none⟩ = false := ⟨h.free 0, h.free 1, h.free 2⟩
theorem Blk.free7 {w : World} {g : Nat} {ty : TypeId} {cs : Array Value} (h : Blk w g ty cs) : w.frozen? ⟨g, 0, none⟩ = false ∧ w.frozen? ⟨g, 1, none⟩ = false ∧ w.frozen? ⟨g, 2, none⟩ = false ∧ w.frozen? ⟨g, 3, none⟩ = false ∧ w.frozen? ⟨g, 4, none⟩ = false ∧ w.frozen? ⟨g, 5, none⟩ = false ∧ w.frozen? ⟨g, 6, none⟩ = false :=
  ⟨h.free 0, h.free 1, h.free 2, h.free 3, h.free 4, h.free 5, h.free 6⟩

end Go.Proofs.Ytjogdilkdnnhnaa
