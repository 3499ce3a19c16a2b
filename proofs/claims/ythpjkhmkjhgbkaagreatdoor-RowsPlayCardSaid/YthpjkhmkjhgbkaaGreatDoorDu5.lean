/- The program's rows and the document's side by side, in memory. -/
import Derived.Test.YthpjkhmkjhgbkaaGreatDoorLk5
import Derived.Test.YthpjkhmkjhgbkaaGreatDoorPw5
import Derived.Test.YthpjkhmkjhgbkaaGreatDoorKeeps5
namespace Go.Proofs.YthpjkhmkjhgbkaaGreatDoor
open Go.RowKit Go.Maps

/-- Two devices of the call's own, and the block that holds both. -/
structure Core5 (w w' : World) (bp p m : Nat) (F G : List Nat) (s t : St) (v2 v3 v4 : Value) : Prop where
  dev : Dev w' p F s
  ref : Ref w' m G t
  blk : Blk w' bp 34 #[.pointer (some ⟨p, 0, none⟩), .pointer (some ⟨m, 0, none⟩), v2, v3, v4]
  only : Only [] w w'
  fnew : ∀ j ∈ F, w.heap.size ≤ j ∧ j < w'.heap.size
  gnew : ∀ j ∈ G, w.heap.size ≤ j ∧ j < w'.heap.size
  bold : w.heap.size ≤ bp
  apart : ∀ j ∈ F, j ∉ G
  bF : bp ∉ F
  bG : bp ∉ G
/-- The logs, the program's rows, and the document's. -/
structure Rest5 (w w' : World) (bp p m : Nat) (F G : List Nat) (lp xp rp mb n1 : Nat) (f1 : Bool) (M1 : List Rw) (n2 : Nat) (f2 : Bool) (M2 : List Rw) (v4 : Value) : Prop where
  log : LogB w' lp p n1 f1
  rows : RowsB w' rp mb lp M1
  rlog : RLogB w' xp m n2 f2
  doc : Mine rwE 3 81 w w' v4 M2
  out : ∀ i ∈ lp :: xp :: rp :: mb :: v4.ownBlock.toList, w.heap.size ≤ i ∧ i ∉ F ∧ i ∉ G ∧ i ≠ bp
  ne1 : lp ≠ xp
  ne2 : lp ≠ rp
  ne3 : lp ≠ mb
  ne4 : xp ≠ rp
  ne5 : xp ≠ mb
  ne6 : rp ≠ mb
  vne : ∀ g, v4.ownBlock = some g → g ≠ lp ∧ g ≠ xp ∧ g ≠ rp ∧ g ≠ mb

section
variable {w w1 w2 : World} {bp p m lp xp rp mb n1 n2 : Nat} {F F' G G' S : List Nat} {s t s' t' : St} {v2 v3 v4 u : Value} {f1 f2 : Bool} {M1 M2 : List Rw}
theorem Core5.lt (h : Core5 w w1 bp p m F G s t v2 v3 v4) : bp < w1.heap.size := Blk.lt h.blk
theorem Core5.keep (h : Core5 w w1 bp p m F G s t v2 v3 v4) (k : Only [] w1 w2) : Core5 w w2 bp p m F G s t v2 v3 v4 :=
  ⟨h.dev.kept k (by simp), h.ref.kept k (by simp), Blk.kept h.blk k (by simp), h.only.trans k, fun j hj => ⟨(h.fnew j hj).1, Nat.lt_of_lt_of_le (h.fnew j hj).2 k.size⟩,
    fun j hj => ⟨(h.gnew j hj).1, Nat.lt_of_lt_of_le (h.gnew j hj).2 k.size⟩, h.bold, h.apart, h.bF, h.bG⟩
/-- The program's device turns. -/
theorem Core5.turnF (h : Core5 w w1 bp p m F G s t v2 v3 v4) (hd : Dev w2 p F' s') (k : Only S w1 w2) (hS : ∀ i ∈ S, w.heap.size ≤ i ∧ i ∉ G ∧ i ≠ bp) (hF' : ∀ j ∈ F', (j ∈ F ∨ w1.heap.size ≤ j) ∧ j < w2.heap.size) :
    Core5 w w2 bp p m F' G s' t v2 v3 v4 := by
  have hlt := h.lt
  refine ⟨hd, h.ref.kept k (fun i hi hm => (hS i hm).2.1 hi), Blk.kept h.blk k (fun hm => (hS _ hm).2.2 rfl), h.only.then k (fun i hi => .inr (hS i hi).1), fun j hj => ⟨?_, (hF' j hj).2⟩,
    fun j hj => ⟨(h.gnew j hj).1, Nat.lt_of_lt_of_le (h.gnew j hj).2 k.size⟩, h.bold, fun j hj hg => ?_, fun hb => ?_, h.bG⟩
  · rcases (hF' j hj).1 with h' | h'
    · exact (h.fnew j h').1
    · have := h.only.size; omega
  · rcases (hF' j hj).1 with h' | h'
    · exact h.apart j h' hg
    · have := (h.gnew j hg).2; omega
  · rcases (hF' _ hb).1 with h' | h'
    · exact h.bF h'
    · omega
/-- The document's device turns. -/
theorem Core5.turnG (h : Core5 w w1 bp p m F G s t v2 v3 v4) (hd : Ref w2 m G' t') (k : Only S w1 w2) (hS : ∀ i ∈ S, w.heap.size ≤ i ∧ i ∉ F ∧ i ≠ bp) (hG' : ∀ j ∈ G', (j ∈ G ∨ w1.heap.size ≤ j) ∧ j < w2.heap.size) :
    Core5 w w2 bp p m F G' s t' v2 v3 v4 := by
  have hlt := h.lt
  refine ⟨h.dev.kept k (fun i hi hm => (hS i hm).2.1 hi), hd, Blk.kept h.blk k (fun hm => (hS _ hm).2.2 rfl), h.only.then k (fun i hi => .inr (hS i hi).1), fun j hj => ⟨(h.fnew j hj).1, Nat.lt_of_lt_of_le (h.fnew j hj).2 k.size⟩,
    fun j hj => ⟨?_, (hG' j hj).2⟩, h.bold, fun j hj hg => ?_, h.bF, fun hb => ?_⟩
  · rcases (hG' j hj).1 with h' | h'
    · exact (h.gnew j h').1
    · have := h.only.size; omega
  · rcases (hG' j hg).1 with h' | h'
    · exact h.apart j hj h'
    · have := (h.fnew j hj).2; omega
  · rcases (hG' _ hb).1 with h' | h'
    · exact h.bG h'
    · omega
theorem Core5.cells (h : Core5 w w1 bp p m F G s t v2 v3 v4) : w1.cell? ⟨bp, 0, none⟩ = some (.pointer (some ⟨p, 0, none⟩)) ∧ w1.cell? ⟨bp, 1, none⟩ = some (.pointer (some ⟨m, 0, none⟩)) ∧ w1.cell? ⟨bp, 2, none⟩ = some v2 ∧ w1.cell? ⟨bp, 3, none⟩ = some v3 ∧ w1.cell? ⟨bp, 4, none⟩ = some v4 := by
  have c0 := Blk.cell h.blk 0
  have c1 := Blk.cell h.blk 1
  have c2 := Blk.cell h.blk 2
  have c3 := Blk.cell h.blk 3
  have c4 := Blk.cell h.blk 4
  simp only [List.getElem?_toArray, List.getElem?_cons_zero, List.getElem?_cons_succ] at c0 c1 c2 c3 c4
  exact ⟨c0, c1, c2, c3, c4⟩
theorem Core5.laid (h : Core5 w w1 bp p m F G s t v2 v3 v4) {u2 u3 u4 : Value} {i : Nat} (hb : Blk (w1.setCell ⟨bp, i, none⟩ u) bp 34 #[.pointer (some ⟨p, 0, none⟩), .pointer (some ⟨m, 0, none⟩), u2, u3, u4]) : Core5 w (w1.setCell ⟨bp, i, none⟩ u) bp p m F G s t u2 u3 u4 := by
  have k : Only [bp] w1 (w1.setCell ⟨bp, i, none⟩ u) := Only.set w1 [bp] (by simp) _
  exact ⟨h.dev.kept k (by intro i hi hm; exact h.bF (by simp at hm; exact hm ▸ hi)), h.ref.kept k (by intro i hi hm; exact h.bG (by simp at hm; exact hm ▸ hi)), hb, h.only.then k (fun i hi => .inr (by simp at hi; rw [hi]; exact h.bold)),
    fun j hj => ⟨(h.fnew j hj).1, Nat.lt_of_lt_of_le (h.fnew j hj).2 k.size⟩, fun j hj => ⟨(h.gnew j hj).1, Nat.lt_of_lt_of_le (h.gnew j hj).2 k.size⟩, h.bold, h.apart, h.bF, h.bG⟩
theorem Core5.lay2 (h : Core5 w w1 bp p m F G s t v2 v3 v4) (u : Value) : Core5 w (w1.setCell ⟨bp, 2, none⟩ u) bp p m F G s t u v3 v4 := h.laid (by simpa using Blk.set h.blk 2 u)
theorem Core5.lay3 (h : Core5 w w1 bp p m F G s t v2 v3 v4) (u : Value) : Core5 w (w1.setCell ⟨bp, 3, none⟩ u) bp p m F G s t v2 u v4 := h.laid (by simpa using Blk.set h.blk 3 u)
theorem Core5.lay4 (h : Core5 w w1 bp p m F G s t v2 v3 v4) (u : Value) : Core5 w (w1.setCell ⟨bp, 4, none⟩ u) bp p m F G s t v2 v3 u := h.laid (by simpa using Blk.set h.blk 4 u)
theorem Core5.d (h : Core5 w w1 bp p m F G s t v2 v3 v4) : OwnD w w1 F p s := ⟨h.dev, h.only, h.fnew⟩

theorem Rest5.lt (h : Rest5 w w1 bp p m F G lp xp rp mb n1 f1 M1 n2 f2 M2 v4) : ∀ i ∈ lp :: xp :: rp :: mb :: v4.ownBlock.toList, i < w1.heap.size := by
  intro i hi
  simp only [List.mem_cons, Option.mem_toList] at hi
  rcases hi with rfl | rfl | rfl | rfl | hi
  · exact Blk.lt h.log
  · exact Blk.lt h.rlog
  · exact h.rows.hdr.lt
  · exact h.rows.map.lt
  · exact (h.doc.own.lt _ hi).2
theorem Rest5.turn (h : Rest5 w w1 bp p m F G lp xp rp mb n1 f1 M1 n2 f2 M2 v4) (k : Only S w1 w2) (hS : ∀ i ∈ lp :: xp :: rp :: mb :: v4.ownBlock.toList, i ∉ S) (hSw : ∀ i ∈ S, w.heap.size ≤ i)
    (hF' : ∀ j ∈ F', j ∈ F ∨ w1.heap.size ≤ j) (hG' : ∀ j ∈ G', j ∈ G ∨ w1.heap.size ≤ j) : Rest5 w w2 bp p m F' G' lp xp rp mb n1 f1 M1 n2 f2 M2 v4 := by
  have hlt := h.lt
  refine ⟨Blk.kept h.log k (hS _ (by simp)), h.rows.kept k (hS _ (by simp)) (hS _ (by simp)), Blk.kept h.rlog k (hS _ (by simp)), h.doc.past k hSw (fun g hg => hS g (by simp [hg])), fun i hi => ?_, h.ne1, h.ne2, h.ne3, h.ne4, h.ne5, h.ne6, h.vne⟩
  obtain ⟨a, b, c, d⟩ := h.out i hi
  have hil := hlt i hi
  refine ⟨a, fun hm => ?_, fun hm => ?_, d⟩
  · rcases hF' i hm with h' | h'
    · exact b h'
    · omega
  · rcases hG' i hm with h' | h'
    · exact c h'
    · omega
theorem Rest5.keep (h : Rest5 w w1 bp p m F G lp xp rp mb n1 f1 M1 n2 f2 M2 v4) (k : Only [] w1 w2) : Rest5 w w2 bp p m F G lp xp rp mb n1 f1 M1 n2 f2 M2 v4 :=
  h.turn k (by simp) (by simp) (fun _ hj => .inl hj) (fun _ hj => .inl hj)
/-- A store into the block that holds both. -/
theorem Rest5.stored (h : Rest5 w w1 bp p m F G lp xp rp mb n1 f1 M1 n2 f2 M2 v4) (hb : w.heap.size ≤ bp) (i : Nat) (u : Value) : Rest5 w (w1.setCell ⟨bp, i, none⟩ u) bp p m F G lp xp rp mb n1 f1 M1 n2 f2 M2 v4 :=
  h.turn (S := [bp]) (Only.set w1 [bp] (by simp) _) (fun i hi hm => (h.out i hi).2.2.2 (by simpa using hm)) (by simpa using hb) (fun _ hj => .inl hj) (fun _ hj => .inl hj)
/-- The program's half turns. -/
theorem Rest5.acted {n' : Nat} {f' : Bool} {M' : List Rw} (h : Rest5 w w1 bp p m F G lp xp rp mb n1 f1 M1 n2 f2 M2 v4) (ho : Own5 w w2 F' rp mb lp p s' n' f' M') (k : Only (mb :: lp :: F) w1 w2) (hw : ∀ i ∈ F, w.heap.size ≤ i)
    (hF' : ∀ j ∈ F', j ∈ F ∨ w1.heap.size ≤ j) : Rest5 w w2 bp p m F' G lp xp rp mb n' f' M' n2 f2 M2 v4 := by
  have hlt := h.lt
  refine ⟨ho.own.log, ho.rows, Blk.kept h.rlog k ?_, h.doc.past k ?_ (fun g hg hm => ?_), fun i hi => ?_, h.ne1, h.ne2, h.ne3, h.ne4, h.ne5, h.ne6, h.vne⟩
  · have := (h.out xp (by simp)).2.1
    simp only [List.mem_cons, not_or]
    exact ⟨h.ne5, fun e => h.ne1 e.symm, this⟩
  · intro i hi
    rcases List.mem_cons.1 hi with rfl | hi
    · exact (h.out _ (by simp)).1
    · rcases List.mem_cons.1 hi with rfl | hi
      · exact (h.out _ (by simp)).1
      · exact hw i hi
  · have hv := h.vne g hg
    rcases List.mem_cons.1 hm with e | hm
    · exact hv.2.2.2 e
    · rcases List.mem_cons.1 hm with e | hm
      · exact hv.1 e
      · exact (h.out g (by simp [hg])).2.1 hm
  · obtain ⟨a, b, c, d⟩ := h.out i hi
    have hil := hlt i hi
    refine ⟨a, fun hm => ?_, c, d⟩
    rcases hF' i hm with h' | h'
    · exact b h'
    · omega
/-- The document's half turns. -/
theorem Rest5.racted {n' : Nat} {f' : Bool} (h : Rest5 w w1 bp p m F G lp xp rp mb n1 f1 M1 n2 f2 M2 v4) (hl : RLogB w2 xp m n' f') (k : Only (xp :: G) w1 w2) (hw : ∀ i ∈ G, w.heap.size ≤ i)
    (hG' : ∀ j ∈ G', j ∈ G ∨ w1.heap.size ≤ j) : Rest5 w w2 bp p m F G' lp xp rp mb n1 f1 M1 n' f' M2 v4 := by
  have hlt := h.lt
  have hno : ∀ i, i ≠ xp → i ∉ G → i ∉ xp :: G := fun i h1 h2 hm => by
    rcases List.mem_cons.1 hm with e | hm
    · exact h1 e
    · exact h2 hm
  refine ⟨Blk.kept h.log k (hno _ h.ne1 (h.out lp (by simp)).2.2.1), h.rows.kept k (hno _ (fun e => h.ne4 e.symm) (h.out rp (by simp)).2.2.1) (hno _ (fun e => h.ne5 e.symm) (h.out mb (by simp)).2.2.1), hl, h.doc.past k ?_ (fun g hg => hno _ (h.vne g hg).2.1 (h.out g (by simp [hg])).2.2.1), fun i hi => ?_, h.ne1, h.ne2, h.ne3, h.ne4, h.ne5, h.ne6, h.vne⟩
  · intro i hi
    rcases List.mem_cons.1 hi with rfl | hi
    · exact (h.out _ (by simp)).1
    · exact hw i hi
  · obtain ⟨a, b, c, d⟩ := h.out i hi
    have hil := hlt i hi
    refine ⟨a, b, fun hm => ?_, d⟩
    rcases hG' i hm with h' | h'
    · exact c h'
    · omega
/-- The document has other rows. -/
theorem Rest5.relay {M' : List Rw} (h : Rest5 w w1 bp p m F G lp xp rp mb n1 f1 M1 n2 f2 M2 v4) (hm : Mine rwE 3 81 w w1 u M') (ho : ∀ g, u.ownBlock = some g → g ∉ F ∧ g ∉ G ∧ g ≠ bp ∧ g ≠ lp ∧ g ≠ xp ∧ g ≠ rp ∧ g ≠ mb) :
    Rest5 w w1 bp p m F G lp xp rp mb n1 f1 M1 n2 f2 M' u := by
  refine ⟨h.log, h.rows, h.rlog, hm, fun i hi => ?_, h.ne1, h.ne2, h.ne3, h.ne4, h.ne5, h.ne6, fun g hg => (ho g hg).2.2.2⟩
  simp only [List.mem_cons, Option.mem_toList] at hi
  rcases hi with rfl | rfl | rfl | rfl | hi
  · exact h.out _ (by simp)
  · exact h.out _ (by simp)
  · exact h.out _ (by simp)
  · exact h.out _ (by simp)
  · have := ho i hi
    exact ⟨hm.new i hi, this.1, this.2.1, this.2.2.1⟩
theorem Rest5.own (h : Rest5 w w1 bp p m F G lp xp rp mb n1 f1 M1 n2 f2 M2 v4) (hc : Core5 w w1 bp p m F G s t v2 v3 u) : Own5 w w1 F rp mb lp p s n1 f1 M1 :=
  ⟨⟨hc.dev, h.log, (h.out lp (by simp)).2.1, (h.out lp (by simp)).1, hc.only, hc.fnew⟩, h.rows, h.ne6, fun e => h.ne2 e.symm, fun e => h.ne3 e.symm, (h.out rp (by simp)).2.1, (h.out mb (by simp)).2.1, (h.out rp (by simp)).1, (h.out mb (by simp)).1⟩

/-! Acts of one device. -/
theorem Core5.did (h : Core5 w w1 bp p m F G s t v2 v3 v4) (k : Did w1 w2 p F s') : ∃ F', Core5 w w2 bp p m F' G s' t v2 v3 v4 ∧ ∀ lp xp rp mb n1 f1 M1 n2 f2 M2, Rest5 w w1 bp p m F G lp xp rp mb n1 f1 M1 n2 f2 M2 v4 → Rest5 w w2 bp p m F' G lp xp rp mb n1 f1 M1 n2 f2 M2 v4 := by
  obtain ⟨F1, d1, k1, hF1⟩ := k
  obtain ⟨F2, d2, hsub, hlt⟩ := d1.trim
  have hF2 : ∀ j ∈ F2, (j ∈ F ∨ w1.heap.size ≤ j) ∧ j < w2.heap.size := fun j hj => ⟨hF1.out j (hsub j hj), hlt j hj⟩
  exact ⟨F2, h.turnF d2 k1 (fun i hi => ⟨(h.fnew i hi).1, h.apart i hi, fun e => h.bF (e ▸ hi)⟩) hF2, fun lp xp rp mb n1 f1 M1 n2 f2 M2 hl => hl.turn k1 (fun i hi => (hl.out i hi).2.1) (fun i hi => (h.fnew i hi).1) (fun j hj => (hF2 j hj).1) (fun j hj => .inl hj)⟩
theorem Core5.rdid (h : Core5 w w1 bp p m F G s t v2 v3 v4) (k : RefDid w1 w2 m G t') : ∃ G', Core5 w w2 bp p m F G' s t' v2 v3 v4 ∧ ∀ lp xp rp mb n1 f1 M1 n2 f2 M2, Rest5 w w1 bp p m F G lp xp rp mb n1 f1 M1 n2 f2 M2 v4 → Rest5 w w2 bp p m F G' lp xp rp mb n1 f1 M1 n2 f2 M2 v4 := by
  obtain ⟨G1, d1, k1, hG1⟩ := k
  exact ⟨G1, h.turnG d1 k1 (fun i hi => ⟨(h.gnew i hi).1, fun hf => h.apart i hf hi, fun e => h.bG (e ▸ hi)⟩) hG1, fun lp xp rp mb n1 f1 M1 n2 f2 M2 hl => hl.turn k1 (fun i hi => (hl.out i hi).2.2.1) (fun i hi => (h.gnew i hi).1) (fun j hj => .inl hj) (fun j hj => (hG1 j hj).1)⟩
theorem Core5.same (h : Core5 w w1 bp p m F G s t v2 v3 v4) (k : Same w1 w2 p F s') : Core5 w w2 bp p m F G s' t v2 v3 v4 ∧ ∀ lp xp rp mb n1 f1 M1 n2 f2 M2, Rest5 w w1 bp p m F G lp xp rp mb n1 f1 M1 n2 f2 M2 v4 → Rest5 w w2 bp p m F G lp xp rp mb n1 f1 M1 n2 f2 M2 v4 := by
  obtain ⟨h1, h2⟩ := k
  have hF : ∀ j ∈ F, (j ∈ F ∨ w1.heap.size ≤ j) ∧ j < w2.heap.size := fun j hj => ⟨.inl hj, Nat.lt_of_lt_of_le (h.fnew j hj).2 h2.size⟩
  exact ⟨h.turnF h1 h2 (fun i hi => ⟨(h.fnew i hi).1, h.apart i hi, fun e => h.bF (e ▸ hi)⟩) hF, fun lp xp rp mb n1 f1 M1 n2 f2 M2 hl => hl.turn h2 (fun i hi => (hl.out i hi).2.1) (fun i hi => (h.fnew i hi).1) (fun j hj => .inl hj) (fun j hj => .inl hj)⟩
theorem Core5.rsame (h : Core5 w w1 bp p m F G s t v2 v3 v4) (k : RefSame w1 w2 m G t') : Core5 w w2 bp p m F G s t' v2 v3 v4 ∧ ∀ lp xp rp mb n1 f1 M1 n2 f2 M2, Rest5 w w1 bp p m F G lp xp rp mb n1 f1 M1 n2 f2 M2 v4 → Rest5 w w2 bp p m F G lp xp rp mb n1 f1 M1 n2 f2 M2 v4 := by
  obtain ⟨h1, h2⟩ := k
  have hG : ∀ j ∈ G, (j ∈ G ∨ w1.heap.size ≤ j) ∧ j < w2.heap.size := fun j hj => ⟨.inl hj, Nat.lt_of_lt_of_le (h.gnew j hj).2 h2.size⟩
  exact ⟨h.turnG h1 h2 (fun i hi => ⟨(h.gnew i hi).1, fun hf => h.apart i hf hi, fun e => h.bG (e ▸ hi)⟩) hG, fun lp xp rp mb n1 f1 M1 n2 f2 M2 hl => hl.turn h2 (fun i hi => (hl.out i hi).2.2.1) (fun i hi => (h.gnew i hi).1) (fun j hj => .inl hj) (fun j hj => .inl hj)⟩
end

/-- Behind k acts: both devices answer alike, and both have the same rows, or neither has any. -/
inductive Duo5 (w w' : World) (bp p m N k : Nat) : Prop
  | none (F G : List Nat) (s t : St) (core : Core5 w w' bp p m F G s t (.pointer none) (.pointer none) (.slice none 0 0)) (like : Like s t) (len : s.firm.length = N) (late : s.late.length ≤ 200 * k)
  | some (F G : List Nat) (s t : St) (lp xp rp mb n : Nat) (f : Bool) (M : List Rw) (v4 : Value) (core : Core5 w w' bp p m F G s t (.pointer (some ⟨rp, 0, none⟩)) (.pointer (some ⟨xp, 0, none⟩)) v4) (rest : Rest5 w w' bp p m F G lp xp rp mb n f M n f M v4)
      (like : Like s t) (len : s.firm.length = N) (late : s.late.length ≤ 200 * k) (few : n < 4294967296) (big : 42 ≤ N) (good : Good (N - 41) M)
theorem Duo5.parts {w w1 : World} {bp p m N k : Nat} (h : Duo5 w w1 bp p m N k) : ∃ F G s t v2 v3 v4, Core5 w w1 bp p m F G s t v2 v3 v4 ∧ Like s t ∧ s.firm.length = N ∧ s.late.length ≤ 200 * k ∧
    (∀ w' F' G' s' t' k', Core5 w w' bp p m F' G' s' t' v2 v3 v4 → (∀ lp xp rp mb n1 f1 M1 n2 f2 M2, Rest5 w w1 bp p m F G lp xp rp mb n1 f1 M1 n2 f2 M2 v4 → Rest5 w w' bp p m F' G' lp xp rp mb n1 f1 M1 n2 f2 M2 v4) → Like s' t' → s'.firm.length = N → s'.late.length ≤ 200 * k' → Duo5 w w' bp p m N k') := by
  cases h with
  | none F G s t core like len late => exact ⟨F, G, s, t, _, _, _, core, like, len, late, fun w' F' G' s' t' k' h1 _ h3 h4 h5 => .none F' G' s' t' h1 h3 h4 h5⟩
  | some F G s t lp xp rp mb n f M v4 core rest like len late few big good => exact ⟨F, G, s, t, _, _, _, core, like, len, late, fun w' F' G' s' t' k' h1 h2 h3 h4 h5 => .some F' G' s' t' lp xp rp mb n f M v4 h1 (h2 _ _ _ _ _ _ _ _ _ _ rest) h3 h4 h5 few big good⟩
theorem Duo5.keep {w w1 w2 : World} {bp p m N k : Nat} (h : Duo5 w w1 bp p m N k) (kk : Only [] w1 w2) : Duo5 w w2 bp p m N k := by
  obtain ⟨F, G, s, t, v2, v3, v4, h0, like, len, late, hback⟩ := h.parts
  exact hback w2 F G s t k (h0.keep kk) (fun _ _ _ _ _ _ _ _ _ _ x => x.keep kk) like len late
theorem Duo5.only {w w1 : World} {bp p m N k : Nat} (h : Duo5 w w1 bp p m N k) : Only [] w w1 := by
  obtain ⟨F, G, s, t, v2, v3, v4, h0, _⟩ := h.parts
  exact h0.only

/-- What is read of data is right. -/
theorem loadAll_good {L : List (List UInt8)} : ∀ (k : Nat) (M : List Rw), k ≤ L.length → loadAll [] (L.take k) 0 = some M → Good k M
  | 0, M, _, h => by
    simp only [List.take_zero, loadAll, Option.some.injEq] at h
    subst h
    exact Good.nil 0
  | k + 1, M, hk, h => by
    have hlt : k < L.length := by omega
    rw [loadAll_take hlt] at h
    cases hl : loadAll [] (L.take k) 0 with
    | none => rw [hl] at h; cases h
    | some M0 =>
      rw [hl] at h
      have ih := loadAll_good k M0 (by omega) hl
      unfold loadR at h
      simp only at h
      split at h
      · injection h with h
        subst h
        exact ⟨ih.sorted, fun r hr => by have := ih.at_lt r hr; omega, ih.small, ih.inj⟩
      · split at h
        · cases h
        · rename_i x hx
          split at h
          · cases h
          · rename_i hf
            have hf' : findR M0 x.1 = none := by simpa using hf
            rw [putR_ins hf'] at h
            injection h with h
            subst h
            have hsm := rowOfL_small (k := x.1) (v := x.2) hx
            refine ⟨sorted_insR ih.sorted (findR_none.1 hf'), fun r hr => ?_, fun r hr => ?_, fun r hr r' hr' e => ?_⟩
            · rcases mem_insR.1 hr with rfl | hr
              · exact Nat.lt_succ_self k
              · have := ih.at_lt r hr; omega
            · rcases mem_insR.1 hr with rfl | hr
              · exact hsm
              · exact ih.small r hr
            · rcases mem_insR.1 hr with rfl | hr <;> rcases mem_insR.1 hr' with rfl | hr'
              · rfl
              · have := ih.at_lt r' hr'
                simp only at e
                omega
              · have := ih.at_lt r hr
                simp only at e
                omega
              · exact ih.inj r hr r' hr' e
theorem parse_good {L : List (List UInt8)} {M : List Rw} (h : parseL L = some M) : Good L.length M := by
  refine loadAll_good L.length M (Nat.le_refl _) ?_
  rw [List.take_length]
  exact h
end Go.Proofs.YthpjkhmkjhgbkaaGreatDoor
