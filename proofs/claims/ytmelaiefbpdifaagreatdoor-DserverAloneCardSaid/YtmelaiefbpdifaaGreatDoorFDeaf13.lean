/- DserverDeaf: the walk. -/
import Derived.Test.YtmelaiefbpdifaaGreatDoorFOp14
import Derived.Deep.CutBlock
import Derived.Deep.DeepCutAuto
import Derived.Deep.LoopGhost
namespace Go.Proofs.YtmelaiefbpdifaaGreatDoor.Srv
open Go.RowKit Go.Maps
open Pgs (Pg pgE)
def p1 (p : Pk) : Pk := { p with asked := 1 }
theorem act_pk {w : World} {A : Option Addr} {l : List Ac} (h : Els acE 23 w A l) {k : Nat} (hk : k < l.length) : ∃ g o, A = some ⟨g, o, none⟩ ∧ w.rangeAt g (o + k * 23 + 3) (pkA l[k].p).toList := by
 obtain ⟨g, o, rfl, _, hat⟩ := h.get hk
 refine ⟨g, o, rfl, fun j v hj => ?_⟩
 have := hat k hk (3 + j) v (by
  unfold acE
  rw [List.getElem?_append_right (by simp)]
  simpa using hj)
 rw [show o + k * 23 + (3 + j) = o + k * 23 + 3 + j by omega] at this
 exact this
structure Seen (w0 w : World) (ge go : Nat) (σ : Sv) (i j : Nat) : Prop where
 eps : ∃ cs : Array Value, cs.size = 6 ∧ Blk w ge 76 cs ∧ ∀ k, k < i → cs[k]? = some (.int .u32 (epN σ.M k : Int))
 obs : ∃ cs : Array Value, cs.size = 6 ∧ Blk w go 77 cs ∧ ∀ k, k < j → ∃ A c, cs[k]? = some (.slice A (objL σ k).length c) ∧ Els pgE 2 w A (objL σ k) ∧ ∀ a, A = some a → w0.heap.size ≤ a.block ∧ a.block ≠ ge ∧ a.block ≠ go
 new : w0.heap.size ≤ ge ∧ w0.heap.size ≤ go ∧ ge ≠ go
section
variable {w0 w w' : World} {ge go i j : Nat} {σ : Sv}
theorem Seen.past {S : List Nat} (h : Seen w0 w ge go σ i j) (k : Only S w w') (hS : ∀ x ∈ S, x < w0.heap.size) : Seen w0 w' ge go σ i j := by
 obtain ⟨⟨cs, h1, h2, h3⟩, ⟨ds, d1, d2, d3⟩, n1, n2, n3⟩ := h
 refine ⟨⟨cs, h1, h2.kept k (fun hm => by have := hS _ hm; omega), h3⟩, ⟨ds, d1, d2.kept k (fun hm => by have := hS _ hm; omega), fun x hx => ?_⟩, n1, n2, n3⟩
 obtain ⟨A, c, e1, e2, e3⟩ := d3 x hx
 exact ⟨A, c, e1, e2.kept k (fun a ha hm => by have := hS _ hm; have := (e3 a ha).1; omega), e3⟩
theorem Seen.keep (h : Seen w0 w ge go σ i j) (k : Only [] w w') : Seen w0 w' ge go σ i j := h.past k (by simp)
theorem Seen.ep {k : Nat} (h : Seen w0 w ge go σ k j) (hk : k < 6) : Seen w0 (w.setCell ⟨ge, k, none⟩ (.int .u32 (epN σ.M k : Int))) ge go σ (k + 1) j := by
 obtain ⟨⟨cs, h1, h2, h3⟩, ⟨ds, d1, d2, d3⟩, n1, n2, n3⟩ := h
 have ko : Only [ge] w (w.setCell ⟨ge, k, none⟩ (.int .u32 (epN σ.M k : Int))) := (Only.refl [ge] w).setCell (.inl (by simp)) _
 refine ⟨⟨_, by simpa using h1, h2.set k _, fun x hx => ?_⟩, ⟨ds, d1, d2.kept ko (by simpa using fun h => n3 h.symm), fun x hx => ?_⟩, n1, n2, n3⟩
 ·by_cases hx' : x = k
  ·subst hx'
   rw [Array.getElem?_setIfInBounds_self_of_lt (by omega)]
  ·rw [Array.getElem?_setIfInBounds_ne (by omega)]
   exact h3 x (by omega)
 ·obtain ⟨A, c, e1, e2, e3⟩ := d3 x hx
  exact ⟨A, c, e1, e2.kept ko (fun a ha => by simpa using (e3 a ha).2.1), e3⟩
theorem Seen.ob {k c : Nat} {A : Option Addr} (h : Seen w0 w ge go σ i k) (hk : k < 6) (hA : Els pgE 2 w A (objL σ k)) (ha : ∀ a, A = some a → w0.heap.size ≤ a.block ∧ a.block ≠ ge ∧ a.block ≠ go) : Seen w0 (w.setCell ⟨go, k, none⟩ (.slice A (objL σ k).length c)) ge go σ i (k + 1) := by
 obtain ⟨⟨cs, h1, h2, h3⟩, ⟨ds, d1, d2, d3⟩, n1, n2, n3⟩ := h
 have ko : Only [go] w (w.setCell ⟨go, k, none⟩ (.slice A (objL σ k).length c)) := (Only.refl [go] w).setCell (.inl (by simp)) _
 refine ⟨⟨cs, h1, h2.kept ko (by simpa using n3), h3⟩, ⟨_, by simpa using d1, d2.set k _, fun x hx => ?_⟩, n1, n2, n3⟩
 by_cases hx' : x = k
 ·subst hx'
  exact ⟨A, c, by rw [Array.getElem?_setIfInBounds_self_of_lt (by omega)], hA.kept ko (fun a h => by simpa using (ha a h).2.2), ha⟩
 ·obtain ⟨A', c', e1, e2, e3⟩ := d3 x (by omega)
  exact ⟨A', c', by rw [Array.getElem?_setIfInBounds_ne (by omega)]; exact e1, e2.kept ko (fun a h => by simpa using (e3 a h).2.2), e3⟩
theorem Seen.readE {k : Nat} (h : Seen w0 w ge go σ i j) (hk : k < i) : w.cell? ⟨ge, k, none⟩ = some (.int .u32 (epN σ.M k : Int)) := by
 obtain ⟨⟨cs, h1, h2, h3⟩, _⟩ := h
 rw [h2.cell k, h3 k hk]
end
end Go.Proofs.YtmelaiefbpdifaaGreatDoor.Srv
