/- A device in memory, and the walks of those of its methods that only look. -/
import Derived.Test.YtihoebmfanelkaaChecked
import Derived.Test.YtihoebmfanelkaaPure
import Derived.WalkKit
import Derived.WalkLawsBesides
import Derived.WalkSpells
import Derived.Outline
import Derived.KernelRfl
import Derived.Deep.MidRow
import Derived.BigQuiet
namespace Go.Proofs.Ytihoebmfanelkaa
open Go.RowKit

/-- The cells of unsettled writes. -/
def lateCells (l : List (Nat × List UInt8)) : List (List Value) := l.map fun x => .int .i64 (x.1 : Int) :: byteVs x.2
def firmCells (f : List (List UInt8)) : List (List Value) := f.map byteVs
def lastCells (n : Nat) (l : List (Nat × List UInt8)) : List Value := (List.range n).map fun k => .int .i64 (lastOf l k : Int)

/-- The device behind the pointer to block p has the state s; it lies in blocks of F. -/
def Dev (w : World) (p : Nat) (F : List Nat) (s : St) : Prop :=
  ∃ gs gl v, Blk w p 75 #[.slice (some ⟨gs, 0, none⟩) s.firm.length s.firm.length, v, .slice (some ⟨gl, 0, none⟩) s.firm.length s.firm.length, .int .i64 s.fuse, .bool s.dead] ∧
    Blk w gs 87 (firmCells s.firm).flatten.toArray ∧ Blk w gl 3 (lastCells s.firm.length s.late).toArray ∧ w.ownsRow 0 107 257 v s.late.length (lateCells s.late).flatten ∧
    (p ≠ gs ∧ p ≠ gl ∧ gs ≠ gl ∧ v.ownBlock ≠ some p ∧ v.ownBlock ≠ some gs ∧ v.ownBlock ≠ some gl) ∧ (p ∈ F ∧ gs ∈ F ∧ gl ∈ F ∧ ∀ k, v.ownBlock = some k → k ∈ F) ∧ Fine s

/-- Behind an act: the new state, and what alone has turned. -/
def Did (w w' : World) (p : Nat) (F : List Nat) (s : St) : Prop :=
  ∃ F', Dev w' p F' s ∧ Only F w w' ∧ Hid (∀ k ∈ F', k ∈ F ∨ w.heap.size ≤ k)

theorem Dev.lt {w : World} {p : Nat} {F : List Nat} {s : St} (h : Dev w p F s) : p < w.heap.size := by
  obtain ⟨gs, gl, v, h1, _⟩ := h
  exact h1.lt
theorem Dev.fine {w : World} {p : Nat} {F : List Nat} {s : St} (h : Dev w p F s) : Fine s := by
  obtain ⟨gs, gl, v, _, _, _, _, _, _, h1⟩ := h
  exact h1

theorem ownsRow_kept' {S : List Nat} {w w' : World} {e : TypeId} {z : Nat} {v : Value} {n : Nat} {xs : List Value} (h : w.ownsRow 0 e z v n xs) (k : Only S w w') (hv : ∀ g, v.ownBlock = some g → g ∉ S) : w'.ownsRow 0 e z v n xs := by
  refine ⟨h.1, ?_⟩
  rcases h.2 with h0 | ⟨g, cap, cur, rfl, hb, hg, r⟩
  · exact .inl h0
  · exact .inr ⟨g, cap, cur, rfl, hb, by rw [k.block g (Array.getElem?_eq_some_iff.1 hg).1 (hv g rfl)]; exact hg, r⟩

theorem Dev.kept {S : List Nat} {w w' : World} {p : Nat} {F : List Nat} {s : St} (h : Dev w p F s) (k : Only S w w') (hF : ∀ i ∈ F, i ∉ S) : Dev w' p F s := by
  obtain ⟨gs, gl, v, h1, h2, h3, h4, h5, ⟨f1, f2, f3, f4⟩, h7⟩ := h
  exact ⟨gs, gl, v, h1.kept k (hF _ f1), h2.kept k (hF _ f2), h3.kept k (hF _ f3), ownsRow_kept' h4 k (fun g hg => hF g (f4 g hg)), h5, ⟨f1, f2, f3, f4⟩, h7⟩

/-- Only blocks that are there. -/
theorem Dev.trim {w : World} {p : Nat} {F : List Nat} {s : St} (h : Dev w p F s) : ∃ F', Dev w p F' s ∧ (∀ k ∈ F', k ∈ F) ∧ ∀ k ∈ F', k < w.heap.size := by
  obtain ⟨gs, gl, v, h1, h2, h3, h4, h5, ⟨f1, f2, f3, f4⟩, h7⟩ := h
  refine ⟨p :: gs :: gl :: v.ownBlock.toList, ⟨gs, gl, v, h1, h2, h3, h4, h5, ⟨by simp, by simp, by simp, fun k hk => by simp [hk]⟩, h7⟩, ?_, ?_⟩
  · intro k hk
    rcases List.mem_cons.1 hk with rfl | hk
    · exact f1
    rcases List.mem_cons.1 hk with rfl | hk
    · exact f2
    rcases List.mem_cons.1 hk with rfl | hk
    · exact f3
    · exact f4 k (by simpa using hk)
  · intro k hk
    rcases List.mem_cons.1 hk with rfl | hk
    · exact h1.lt
    rcases List.mem_cons.1 hk with rfl | hk
    · exact h2.lt
    rcases List.mem_cons.1 hk with rfl | hk
    · exact h3.lt
    · rcases h4.2 with ⟨rfl, _⟩ | ⟨g, cap, cur, rfl, _, hg, _⟩
      · simp [Value.ownBlock] at hk
      · simp [Value.ownBlock] at hk
        subst hk
        exact (Array.getElem?_eq_some_iff.1 hg).1

theorem blocks_any (w : World) (p : Nat) (F : List Nat) (s : St) (hd : Dev w p F s) :
    Calls Try.prog 36 #[.pointer (some ⟨p, 0, none⟩)] w fun e w' => e = .returned (.int .i64 (s.firm.length : Int)) ∧ w' = w := by
  obtain ⟨gs, gl, v, hb, _⟩ := hd
  have c0 := hb.cell 0
  simp only [List.getElem?_toArray, List.getElem?_cons_zero] at c0
  generalize s.firm.length = n at *
  go_enter Try.func36, Try.ntmps36
  go_wp2
  go_ret
  exact ⟨rfl, rfl⟩
theorem blocks_nil (w : World) :
    Calls Try.prog 36 #[.pointer none] w fun e w' => e = .returned (.int .i64 0) ∧ w' = w := by
  go_enter Try.func36, Try.ntmps36
  go_wp2
  go_ret
  exact ⟨rfl, rfl⟩

theorem has_any (w : World) (p : Nat) (F : List Nat) (s : St) (k : Int) (hd : Dev w p F s) :
    Calls Try.prog 35 #[.pointer (some ⟨p, 0, none⟩), .int .i64 k] w fun e w' => e = .returned (.bool (hasBlock s.firm.length k)) ∧ w' = w := by
  by_cases hk : 0 ≤ k
  · go_enter Try.func35, Try.ntmps35
    go_wp2_with fail
    refine (blocks_any w p F s hd).mono ?_
    rintro e w1 ⟨rfl, rfl⟩
    go_wp2
    go_ret
    exact ⟨by simp [hasBlock, hk], rfl⟩
  · go_enter Try.func35, Try.ntmps35
    go_wp2
    go_ret
    exact ⟨by simp [hasBlock]; omega, rfl⟩
theorem has_nil (w : World) (k : Int) :
    Calls Try.prog 35 #[.pointer none, .int .i64 k] w fun e w' => e = .returned (.bool false) ∧ w' = w := by
  by_cases hk : 0 ≤ k
  · go_enter Try.func35, Try.ntmps35
    go_wp2_with fail
    refine (blocks_nil w).mono ?_
    rintro e w1 ⟨rfl, rfl⟩
    go_wp2
    go_ret
    exact ⟨by simp; omega, rfl⟩
  · go_enter Try.func35, Try.ntmps35
    go_wp2
    go_ret
    exact ⟨by simp, rfl⟩

end Go.Proofs.Ytihoebmfanelkaa
