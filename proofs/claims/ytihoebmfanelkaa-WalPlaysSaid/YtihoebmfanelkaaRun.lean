/- A device of the call's own: what is known of it since the start, beside other blocks of the call's own. -/
import Derived.Test.YtihoebmfanelkaaWrite
import Derived.Test.YtihoebmfanelkaaNew
namespace Go.Proofs.Ytihoebmfanelkaa
open Go.RowKit

theorem i64_range {n : Int} (h : (Lit.int .i64 n).wf = true) : -9223372036854775808 ≤ n ∧ n ≤ 9223372036854775807 := by
  have e1 : IntKind.i64.min = -9223372036854775808 := by decide +kernel
  have e2 : IntKind.i64.max = 9223372036854775807 := by decide +kernel
  simp only [Lit.wf, Bool.and_eq_true, decide_eq_true_eq] at h
  omega
theorem u64_range {n : Int} (h : (Lit.int .u64 n).wf = true) : 0 ≤ n ∧ n < 18446744073709551616 := by
  have e1 : IntKind.u64.min = 0 := by decide +kernel
  have e2 : IntKind.u64.max = 18446744073709551615 := by decide +kernel
  simp only [Lit.wf, Bool.and_eq_true, decide_eq_true_eq] at h
  omega
theorem u8_range {n : Int} (h : (Lit.int .u8 n).wf = true) : 0 ≤ n ∧ n < 256 := by
  have e1 : IntKind.u8.min = 0 := by decide +kernel
  have e2 : IntKind.u8.max = 255 := by decide +kernel
  simp only [Lit.wf, Bool.and_eq_true, decide_eq_true_eq] at h
  omega

theorem Same.did {w w' : World} {p : Nat} {F : List Nat} {s : St} (h : Same w w' p F s) : Did w w' p F s := ⟨F, h.1, h.2, fun _ hk => .inl hk⟩
theorem Did.from {w w0 w' : World} {p : Nat} {F : List Nat} {s : St} (k : Only [] w w0) (h : Did w0 w' p F s) : Did w w' p F s := by
  obtain ⟨F', h1, h2, h3⟩ := h
  exact ⟨F', h1, (k.more (T := F) (by simp)).then h2 (fun _ hi => .inl hi), fun i hi => (h3.out i hi).imp id (fun h => Nat.le_trans k.size h)⟩

theorem Did.mono {w w' : World} {p : Nat} {F G : List Nat} {s : St} (h : Did w w' p F s) (hG : ∀ i ∈ F, i ∈ G) : Did w w' p G s := by
  obtain ⟨F', h1, h2, h3⟩ := h
  exact ⟨F', h1, h2.more (fun i hi => .inl (hG i hi)), fun i hi => (h3.out i hi).imp (hG i) id⟩
theorem Did.cell {w w' : World} {p : Nat} {F : List Nat} {s : St} (h : Did w w' p F s) {a : Addr} {v : Value} (hc : w.cell? a = some v) (ha : a.block ∉ F) : w'.cell? a = some v := by
  obtain ⟨F', h1, h2, h3⟩ := h
  exact h2.cell hc ha

theorem Only.undrew {S : List Nat} {w w' : World} (h : Only S w.drew w') : Only S w w' := ⟨h.os, h.tape, h.output, h.size, h.block⟩



/-- Since w, by whatever was done, a device of the call's own has come to the state s. -/
def Run (w w' : World) (p : Nat) (s : St) : Prop := ∃ F, Dev w' p F s ∧ Only [] w w' ∧ ∀ i ∈ F, w.heap.size ≤ i
theorem Run.only {w w1 w2 : World} {p : Nat} {s : St} (h : Run w w1 p s) (k : Only [] w1 w2) : Run w w2 p s := by
  obtain ⟨F, h1, h2, h3⟩ := h
  exact ⟨F, h1.kept k (by simp), h2.trans k, h3⟩
theorem Run.did {w w1 w2 : World} {p : Nat} {F : List Nat} {s : St} (k : Only [] w w1) (hF : ∀ i ∈ F, w.heap.size ≤ i) (h : Did w1 w2 p F s) : Run w w2 p s := by
  obtain ⟨F', h1, h2, h3⟩ := h
  refine ⟨F', h1, k.then h2 (fun i hi => .inr (hF i hi)), fun i hi => ?_⟩
  rcases h3.out i hi with h | h
  · exact hF i h
  · exact Nat.le_trans k.size h
theorem Run.fine {w w1 : World} {p : Nat} {s : St} (h : Run w w1 p s) : Fine s := by
  obtain ⟨F, h1, _⟩ := h
  exact h1.fine

theorem Run.cell {w w' : World} {p : Nat} {s : St} (h : Run w w' p s) {a : Addr} {v : Value} (hc : w.cell? a = some v) : w'.cell? a = some v := by
  obtain ⟨F, _, k, _⟩ := h
  exact k.cell hc (by simp)
theorem Run.acts {w w' : World} {p : Nat} {s : St} (h : Run w w' p s) : Only [] w w' := by
  obtain ⟨F, _, k, _⟩ := h
  exact k

/-! The contracts over a device of the call's own. -/
section
variable {w w1 : World} {p : Nat} {s : St}
theorem Run.write (h : Run w w1 p s) (k : Int) (b : List UInt8) (h0 : -9223372036854775808 ≤ k) (h1 : k ≤ 9223372036854775807) (hlen : s.late.length < 1048576) :
    Calls Try.prog 33 #[.pointer (some ⟨p, 0, none⟩), .int .i64 k, .string (strOf b)] w1 fun e w' => e = .returned (.int .i64 (writeErr s k b)) ∧ Run w w' p (written s k b) := by
  obtain ⟨F, hd, k, hF⟩ := h
  exact (write_any w1 p F s _ b h0 h1 hlen hd).mono fun e w' h => ⟨h.1, Run.did k hF h.2⟩
theorem Run.barrier (h : Run w w1 p s) :
    Calls Try.prog 58 #[.pointer (some ⟨p, 0, none⟩)] w1 fun e w' => e = .returned (.int .i64 (barErr s)) ∧ Run w w' p (barred s) := by
  obtain ⟨F, hd, k, hF⟩ := h
  exact (barrier_any w1 p F s hd).mono fun e w' h => ⟨h.1, Run.did k hF h.2.did⟩
theorem Run.fuse (h : Run w w1 p s) (n : Int) (h0 : -9223372036854775808 ≤ n) (h1 : n ≤ 9223372036854775807) :
    Calls Try.prog 19 #[.pointer (some ⟨p, 0, none⟩), .int .i64 n] w1 fun e w' => e = .returned (.tuple #[]) ∧ Run w w' p (lit s n) := by
  obtain ⟨F, hd, k, hF⟩ := h
  exact (fuse_any w1 p F s n h0 h1 hd).mono fun e w' h => ⟨h.1, Run.did k hF h.2.did⟩
theorem Run.crash (h : Run w w1 p s) (keep : Nat) (hk : keep < 18446744073709551616) :
    Calls Try.prog 21 #[.pointer (some ⟨p, 0, none⟩), .int .u64 (keep : Int)] w1 fun e w' => e = .returned (.tuple #[]) ∧ Run w w' p (crashed s keep) := by
  obtain ⟨F, hd, k, hF⟩ := h
  exact (crash_any w1 p F s keep hk hd).mono fun e w' h => ⟨h.1, Run.did k hF h.2.did⟩
theorem Run.read (h : Run w w1 p s) (k : Int) :
    Calls Try.prog 38 #[.pointer (some ⟨p, 0, none⟩), .int .i64 k] w1 fun e w' => e = .returned (.tuple #[.string (strOf (readB s k)), .int .i64 (readErr s k)]) ∧ w' = w1 := by
  obtain ⟨F, hd, _, _⟩ := h
  exact read_any w1 p F s k hd
theorem Run.settled (h : Run w w1 p s) (k : Int) :
    Calls Try.prog 14 #[.pointer (some ⟨p, 0, none⟩), .int .i64 k] w1 fun e w' => e = .returned (.string (strOf (firmB s k))) ∧ w' = w1 := by
  obtain ⟨F, hd, _, _⟩ := h
  exact settled_any w1 p F s k hd
theorem Run.blocks (h : Run w w1 p s) :
    Calls Try.prog 36 #[.pointer (some ⟨p, 0, none⟩)] w1 fun e w' => e = .returned (.int .i64 (s.firm.length : Int)) ∧ w' = w1 := by
  obtain ⟨F, hd, _, _⟩ := h
  exact blocks_any w1 p F s hd
end
theorem Run.new (w w1 : World) (k : Int) (h0 : -9223372036854775808 ≤ k) (h1 : k ≤ 9223372036854775807) (k1 : Only [] w w1) :
    Calls Try.prog 10 #[.int .i64 k] w1 fun e w' => ∃ p, e = .returned (.pointer (some ⟨p, 0, none⟩)) ∧ Run w w' p (fresh (clamp k)) := by
  refine (new_any w1 k h0 h1).mono ?_
  rintro e w' ⟨p, F, he, hd, hk, hF⟩
  exact ⟨p, he, F, hd, k1.trans hk, fun i hi => Nat.le_trans k1.size (hF i hi)⟩

def RunQ (w w' : World) (Q : List Nat) (p : Nat) (s : St) : Prop :=
  ∃ F, Dev w' p F s ∧ Only [] w w' ∧ (∀ i ∈ F, w.heap.size ≤ i ∧ i ∉ Q ∧ i < w'.heap.size) ∧ ∀ q ∈ Q, w.heap.size ≤ q ∧ q < w'.heap.size
/-- The blocks of Q are as they were. -/
def KeepQ (Q : List Nat) (w w' : World) : Prop := ∀ q ∈ Q, w'.heap[q]? = w.heap[q]?

theorem KeepQ.blk {Q : List Nat} {w w' : World} {g : Nat} {t : TypeId} {cs : Array Value} (h : KeepQ Q w w') (hb : Blk w g t cs) (hg : g ∈ Q) : Blk w' g t cs := (h g hg).trans hb
theorem KeepQ.refl (Q : List Nat) (w : World) : KeepQ Q w w := fun _ _ => rfl

theorem Run.q {w w' : World} {p : Nat} {s : St} (h : Run w w' p s) : RunQ w w' [] p s := by
  obtain ⟨F, h1, h2, h3⟩ := h
  obtain ⟨F', k1, k2, k3⟩ := h1.trim
  exact ⟨F', k1, h2, fun i hi => ⟨h3 i (k2 i hi), by simp, k3 i hi⟩, by simp⟩
section
variable {w w1 w2 : World} {Q : List Nat} {p : Nat} {s : St}
theorem RunQ.run (h : RunQ w w1 Q p s) : Run w w1 p s := by
  obtain ⟨F, h1, h2, h3, _⟩ := h
  exact ⟨F, h1, h2, fun i hi => (h3 i hi).1⟩
theorem RunQ.acts (h : RunQ w w1 Q p s) : Only [] w w1 := h.run.acts
theorem RunQ.fine (h : RunQ w w1 Q p s) : Fine s := h.run.fine
theorem RunQ.cell (h : RunQ w w1 Q p s) {a : Addr} {v : Value} (hc : w.cell? a = some v) : w1.cell? a = some v := h.run.cell hc
theorem RunQ.did {F : List Nat} {t : St} (k : Only [] w w1) (hF : ∀ i ∈ F, w.heap.size ≤ i ∧ i ∉ Q ∧ i < w1.heap.size) (hQ : ∀ q ∈ Q, w.heap.size ≤ q ∧ q < w1.heap.size) (h : Did w1 w2 p F t) : RunQ w w2 Q p t ∧ KeepQ Q w1 w2 := by
  obtain ⟨F', h1, h2, h3⟩ := h
  obtain ⟨F2, k1, k2, k3⟩ := h1.trim
  refine ⟨⟨F2, k1, k.then h2 (fun i hi => .inr (hF i hi).1), fun i hi => ⟨?_, ?_, k3 i hi⟩, fun q hq => ⟨(hQ q hq).1, Nat.lt_of_lt_of_le (hQ q hq).2 h2.size⟩⟩, fun q hq => h2.block q (hQ q hq).2 (fun hm => (hF q hm).2.1 hq)⟩
  · rcases h3.out i (k2 i hi) with h | h
    · exact (hF i h).1
    · exact Nat.le_trans k.size h
  · rcases h3.out i (k2 i hi) with h | h
    · exact (hF i h).2.1
    · intro hq
      have := (hQ i hq).2
      omega
/-- The law's own steps: they turn Q alone, and may make Q anew. -/
theorem RunQ.turn {Q' : List Nat} (h : RunQ w w1 Q p s) (k : Only Q w1 w2) (hQ' : ∀ q ∈ Q', (q ∈ Q ∨ w1.heap.size ≤ q) ∧ q < w2.heap.size) : RunQ w w2 Q' p s := by
  obtain ⟨F, h1, h2, h3, h4⟩ := h
  refine ⟨F, h1.kept k (fun i hi => (h3 i hi).2.1), h2.then k (fun i hi => .inr (h4 i hi).1), fun i hi => ⟨(h3 i hi).1, fun hq => ?_, Nat.lt_of_lt_of_le (h3 i hi).2.2 k.size⟩, fun q hq => ⟨?_, (hQ' q hq).2⟩⟩
  · rcases (hQ' i hq).1 with h | h
    · exact (h3 i hi).2.1 h
    · have := (h3 i hi).2.2
      omega
  · rcases (hQ' q hq).1 with h | h
    · exact (h4 q h).1
    · exact Nat.le_trans h2.size h
theorem RunQ.only (h : RunQ w w1 Q p s) (k : Only [] w1 w2) : RunQ w w2 Q p s ∧ KeepQ Q w1 w2 := by
  have hq : ∀ q ∈ Q, q < w1.heap.size := by
    obtain ⟨F, _, _, _, h4⟩ := h
    exact fun q hq => (h4 q hq).2
  exact ⟨h.turn (k.more (by simp)) (fun q h' => ⟨.inl h', Nat.lt_of_lt_of_le (hq q h') k.size⟩), fun q h' => k.block q (hq q h') (by simp)⟩

theorem RunQ.write (h : RunQ w w1 Q p s) (k : Int) (b : List UInt8) (h0 : -9223372036854775808 ≤ k) (h1 : k ≤ 9223372036854775807) (hlen : s.late.length < 1048576) :
    Calls Try.prog 33 #[.pointer (some ⟨p, 0, none⟩), .int .i64 k, .string (strOf b)] w1 fun e w' => e = .returned (.int .i64 (writeErr s k b)) ∧ RunQ w w' Q p (written s k b) ∧ KeepQ Q w1 w' := by
  obtain ⟨F, hd, k, hF, hQ⟩ := h
  exact (write_any w1 p F s _ b h0 h1 hlen hd).mono fun e w' h => ⟨h.1, RunQ.did k hF hQ h.2⟩
theorem RunQ.barrier (h : RunQ w w1 Q p s) :
    Calls Try.prog 58 #[.pointer (some ⟨p, 0, none⟩)] w1 fun e w' => e = .returned (.int .i64 (barErr s)) ∧ RunQ w w' Q p (barred s) ∧ KeepQ Q w1 w' := by
  obtain ⟨F, hd, k, hF, hQ⟩ := h
  exact (barrier_any w1 p F s hd).mono fun e w' h => ⟨h.1, RunQ.did k hF hQ h.2.did⟩
theorem RunQ.crash (h : RunQ w w1 Q p s) (keep : Nat) (hk : keep < 18446744073709551616) :
    Calls Try.prog 21 #[.pointer (some ⟨p, 0, none⟩), .int .u64 (keep : Int)] w1 fun e w' => e = .returned (.tuple #[]) ∧ RunQ w w' Q p (crashed s keep) ∧ KeepQ Q w1 w' := by
  obtain ⟨F, hd, k, hF, hQ⟩ := h
  exact (crash_any w1 p F s keep hk hd).mono fun e w' h => ⟨h.1, RunQ.did k hF hQ h.2.did⟩
end

/-! Arrays of texts. -/
def strCells (L : List (List UInt8)) : List Value := L.map fun b => .string (strOf b)
theorem strCells_set (L : List (List UInt8)) (i : Nat) (b : List UInt8) : (strCells L).set i (.string (strOf b)) = strCells (L.set i b) := by simp [strCells, List.map_set]
theorem strCells_at {w : World} {q : Nat} {t : TypeId} {L : List (List UInt8)} (h : Blk w q t (strCells L).toArray) {i : Nat} (hi : i < L.length) : w.cell? ⟨q, i, none⟩ = some (.string (strOf (L.getD i []))) := by
  rw [h.cell]
  simp [strCells, hi]
end Go.Proofs.Ytihoebmfanelkaa
