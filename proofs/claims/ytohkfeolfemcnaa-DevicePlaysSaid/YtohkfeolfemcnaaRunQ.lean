/- A device of the call's own beside other blocks of the call's own (Q), which its acts leave alone; arrays of texts. -/
import Derived.Test.YtohkfeolfemcnaaFuse
namespace Go.Proofs.Ytohkfeolfemcnaa
open Go.RowKit

def RunQ (w w' : World) (Q : List Nat) (p : Nat) (s : St) : Prop :=
  ∃ F, Dev w' p F s ∧ Only [] w w' ∧ (∀ i ∈ F, w.heap.size ≤ i ∧ i ∉ Q ∧ i < w'.heap.size) ∧ ∀ q ∈ Q, w.heap.size ≤ q ∧ q < w'.heap.size
/-- The blocks of Q are as they were. -/
def KeepQ (Q : List Nat) (w w' : World) : Prop := ∀ q ∈ Q, w'.heap[q]? = w.heap[q]?

theorem KeepQ.blk {Q : List Nat} {w w' : World} {g : Nat} {t : TypeId} {cs : Array Value} (h : KeepQ Q w w') (hb : Blk w g t cs) (hg : g ∈ Q) : Blk w' g t cs := (h g hg).trans hb
theorem KeepQ.refl (Q : List Nat) (w : World) : KeepQ Q w w := fun _ _ => rfl

theorem Run.q {w w' : World} {p : Nat} {s : St} (h : Run w w' p s) : RunQ w w' [] p s := by
  obtain ⟨F, h1, h2, h3⟩ := h
  obtain ⟨F', k1, k2, k3⟩ := h1.trim
  exact ⟨F', k1, h2, fun i hi => ⟨h3 i (k2 i hi), by simp, k3 i hi⟩, by simp⟩
section
variable {w w1 w2 : World} {Q : List Nat} {p : Nat} {s : St}
theorem RunQ.run (h : RunQ w w1 Q p s) : Run w w1 p s := by
  obtain ⟨F, h1, h2, h3, _⟩ := h
  exact ⟨F, h1, h2, fun i hi => (h3 i hi).1⟩
theorem RunQ.acts (h : RunQ w w1 Q p s) : Only [] w w1 := h.run.acts
theorem RunQ.fine (h : RunQ w w1 Q p s) : Fine s := h.run.fine
theorem RunQ.cell (h : RunQ w w1 Q p s) {a : Addr} {v : Value} (hc : w.cell? a = some v) : w1.cell? a = some v := h.run.cell hc
theorem RunQ.did {F : List Nat} {t : St} (k : Only [] w w1) (hF : ∀ i ∈ F, w.heap.size ≤ i ∧ i ∉ Q ∧ i < w1.heap.size) (hQ : ∀ q ∈ Q, w.heap.size ≤ q ∧ q < w1.heap.size) (h : Did w1 w2 p F t) : RunQ w w2 Q p t ∧ KeepQ Q w1 w2 := by
  obtain ⟨F', h1, h2, h3⟩ := h
  obtain ⟨F2, k1, k2, k3⟩ := h1.trim
  refine ⟨⟨F2, k1, k.then h2 (fun i hi => .inr (hF i hi).1), fun i hi => ⟨?_, ?_, k3 i hi⟩, fun q hq => ⟨(hQ q hq).1, Nat.lt_of_lt_of_le (hQ q hq).2 h2.size⟩⟩, fun q hq => h2.block q (hQ q hq).2 (fun hm => (hF q hm).2.1 hq)⟩
  · rcases h3.out i (k2 i hi) with h | h
    · exact (hF i h).1
    · exact Nat.le_trans k.size h
  · rcases h3.out i (k2 i hi) with h | h
    · exact (hF i h).2.1
    · intro hq
      have := (hQ i hq).2
      omega
/-- The law's own steps: they turn Q alone, and may make Q anew. -/
theorem RunQ.turn {Q' : List Nat} (h : RunQ w w1 Q p s) (k : Only Q w1 w2) (hQ' : ∀ q ∈ Q', (q ∈ Q ∨ w1.heap.size ≤ q) ∧ q < w2.heap.size) : RunQ w w2 Q' p s := by
  obtain ⟨F, h1, h2, h3, h4⟩ := h
  refine ⟨F, h1.kept k (fun i hi => (h3 i hi).2.1), h2.then k (fun i hi => .inr (h4 i hi).1), fun i hi => ⟨(h3 i hi).1, fun hq => ?_, Nat.lt_of_lt_of_le (h3 i hi).2.2 k.size⟩, fun q hq => ⟨?_, (hQ' q hq).2⟩⟩
  · rcases (hQ' i hq).1 with h | h
    · exact (h3 i hi).2.1 h
    · have := (h3 i hi).2.2
      omega
  · rcases (hQ' q hq).1 with h | h
    · exact (h4 q h).1
    · exact Nat.le_trans h2.size h
theorem RunQ.only (h : RunQ w w1 Q p s) (k : Only [] w1 w2) : RunQ w w2 Q p s ∧ KeepQ Q w1 w2 := by
  have hq : ∀ q ∈ Q, q < w1.heap.size := by
    obtain ⟨F, _, _, _, h4⟩ := h
    exact fun q hq => (h4 q hq).2
  exact ⟨h.turn (k.more (by simp)) (fun q h' => ⟨.inl h', Nat.lt_of_lt_of_le (hq q h') k.size⟩), fun q h' => k.block q (hq q h') (by simp)⟩

theorem RunQ.write (h : RunQ w w1 Q p s) (k : Int) (b : List UInt8) (h0 : -9223372036854775808 ≤ k) (h1 : k ≤ 9223372036854775807) (hlen : s.late.length < 1048576) :
    Calls Try.prog 24 #[.pointer (some ⟨p, 0, none⟩), .int .i64 k, .string (strOf b)] w1 fun e w' => e = .returned (.int .i64 (writeErr s k b)) ∧ RunQ w w' Q p (written s k b) ∧ KeepQ Q w1 w' := by
  obtain ⟨F, hd, k, hF, hQ⟩ := h
  exact (write_any w1 p F s _ b h0 h1 hlen hd).mono fun e w' h => ⟨h.1, RunQ.did k hF hQ h.2⟩
theorem RunQ.barrier (h : RunQ w w1 Q p s) :
    Calls Try.prog 25 #[.pointer (some ⟨p, 0, none⟩)] w1 fun e w' => e = .returned (.int .i64 (barErr s)) ∧ RunQ w w' Q p (barred s) ∧ KeepQ Q w1 w' := by
  obtain ⟨F, hd, k, hF, hQ⟩ := h
  exact (barrier_any w1 p F s hd).mono fun e w' h => ⟨h.1, RunQ.did k hF hQ h.2.did⟩
theorem RunQ.crash (h : RunQ w w1 Q p s) (keep : Nat) (hk : keep < 18446744073709551616) :
    Calls Try.prog 22 #[.pointer (some ⟨p, 0, none⟩), .int .u64 (keep : Int)] w1 fun e w' => e = .returned (.tuple #[]) ∧ RunQ w w' Q p (crashed s keep) ∧ KeepQ Q w1 w' := by
  obtain ⟨F, hd, k, hF, hQ⟩ := h
  exact (crash_any w1 p F s keep hk hd).mono fun e w' h => ⟨h.1, RunQ.did k hF hQ h.2.did⟩
theorem RunQ.do (h : RunQ w w1 Q p s) (x : Deed) (hx : x.okay) (hlen : s.late.length < 1048576) :
    Calls Try.prog 13 #[.pointer (some ⟨p, 0, none⟩), .agg #[.int .i64 x.kind, .int .i64 x.at_, .int .u8 (x.b.toNat : Int), .int .u64 (x.keep : Int)]] w1 fun e w' => e = .returned (.int .i64 (actErr s x)) ∧ RunQ w w' Q p (actSt s x) ∧ KeepQ Q w1 w' := by
  obtain ⟨F, hd, k, hF, hQ⟩ := h
  exact (do_any w1 p F s x hx hlen hd).mono fun e w' h => ⟨h.1, RunQ.did k hF hQ h.2⟩
end

/-! Arrays of texts. -/
def strCells (L : List (List UInt8)) : List Value := L.map fun b => .string (strOf b)
theorem strCells_set (L : List (List UInt8)) (i : Nat) (b : List UInt8) : (strCells L).set i (.string (strOf b)) = strCells (L.set i b) := by simp [strCells, List.map_set]
theorem strCells_at {w : World} {q : Nat} {t : TypeId} {L : List (List UInt8)} (h : Blk w q t (strCells L).toArray) {i : Nat} (hi : i < L.length) : w.cell? ⟨q, i, none⟩ = some (.string (strOf (L.getD i []))) := by
  rw [h.cell]
  simp [strCells, hi]
end Go.Proofs.Ytohkfeolfemcnaa
