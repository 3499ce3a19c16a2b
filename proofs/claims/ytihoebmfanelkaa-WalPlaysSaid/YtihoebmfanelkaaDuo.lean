/- The program's log and the document's side by side: what each act makes of two states that answer alike; both in memory. -/
import Derived.Test.YtihoebmfanelkaaRlog5
import Derived.Test.YtihoebmfanelkaaLaw2
import Derived.Test.YtihoebmfanelkaaActs
namespace Go.Proofs.Ytihoebmfanelkaa
open Go.RowKit

theorem Like.settleW : ∀ (l : List Bk) {s t : St}, Like s t → (settleW s l).1 = (settleW t l).1 ∧ Like (settleW s l).2 (settleW t l).2
  | [], _, _, h => ⟨h.barErr, h.barred⟩
  | x :: r, s, t, h => by
    have e := h.writeErr x.at_ x.data
    have hw := h.written x.at_ x.data
    rw [Go.Proofs.Ytihoebmfanelkaa.settleW, Go.Proofs.Ytihoebmfanelkaa.settleW, ← e]
    split
    · exact Like.settleW r hw
    · exact ⟨rfl, hw⟩
theorem Like.commitW {s t : St} (h : Like s t) (n : Nat) (l : List Bk) : (commitW s n l).1 = (commitW t n l).1 ∧ Like (commitW s n l).2 (commitW t n l).2 := by
  have h1 := Like.settleW (copiesOf (homesOf (n + 1) l)) h
  have h2 := Like.settleW [⟨0, markL (n + 1) l.length⟩] h1.2
  have h3 := Like.settleW (homesOf (n + 1) l) h2.2
  unfold Go.Proofs.Ytihoebmfanelkaa.commitW
  rw [← h1.1, ← h2.1]
  split
  · exact h1
  · split
    · exact h2
    · exact h3
theorem Like.commits {s t s' t' : St} (h : Like s t) {n n1 n2 : Nat} {f f1 f2 : Bool} {l : List Bk} {x y : Int} (hs : CommitsTo s n f l x s' n1 f1) (ht : CommitsTo t n f l y t' n2 f2) : x = y ∧ Like s' t' ∧ n1 = n2 ∧ f1 = f2 := by
  have hN : ((s.firm.length : Int) - 41) = ((t.firm.length : Int) - 41) := by rw [h.1]
  have hc := h.commitW n l
  have uniq : ∀ {a b : Int}, Refusal ((t.firm.length : Int) - 41) f n l a → Refusal ((t.firm.length : Int) - 41) f n l b → a = b := by
    intro a b ha hb
    rcases ha with ⟨a1, a2⟩ | ⟨a1, a2, a3⟩ | ⟨a1, a2, a3, a4⟩ | ⟨a1, a2, a3, a4⟩ <;> rcases hb with ⟨b1, b2⟩ | ⟨b1, b2, b3⟩ | ⟨b1, b2, b3, b4⟩ | ⟨b1, b2, b3, b4⟩ <;> first
      | (exact absurd a1 b1) | (exact absurd b1 a1) | omega | (rw [a2] at b2; exact absurd b2 (by decide)) | (exact absurd a3 b3) | (exact absurd b3 a3)
  unfold CommitsTo at hs ht
  rw [hN] at hs
  rcases hs with ⟨a1, a2, rfl, rfl, rfl⟩ | ⟨a1, a2, rfl, a4⟩
  · rcases ht with ⟨b1, b2, rfl, rfl, rfl⟩ | ⟨b1, b2, rfl, b4⟩
    · exact ⟨uniq a2 b2, h, rfl, rfl⟩
    · exact absurd (uniq a2 b1) a1
  · rcases ht with ⟨b1, b2, rfl, rfl, rfl⟩ | ⟨b1, b2, rfl, b4⟩
    · exact absurd (uniq b2 a1) b1
    · have hxy : x = y := by rw [a2, b2]; exact hc.1
      refine ⟨hxy, hc.2, ?_⟩
      rcases a4 with ⟨c1, rfl, rfl⟩ | ⟨c1, rfl, rfl⟩ <;> rcases b4 with ⟨d1, rfl, rfl⟩ | ⟨d1, rfl, rfl⟩
      · exact ⟨rfl, rfl⟩
      · omega
      · omega
      · exact ⟨rfl, rfl⟩
theorem Like.redoL {s t : St} (h : Like s t) (n k : Nat) : redoL s n k = redoL t n k := by
  obtain ⟨f1, l1, u1, d1⟩ := s
  obtain ⟨f2, l2, u2, d2⟩ := t
  obtain ⟨h1, h2, _⟩ := h
  simp only at h1 h2
  subst h1; subst h2
  rfl
theorem Like.blkB {s t : St} (h : Like s t) (k : Nat) : blkB s k = blkB t k := by
  unfold Go.Proofs.Ytihoebmfanelkaa.blkB
  rw [h.1, h.2.1]
theorem Like.opens {s t : St} (h : Like s t) : openErr s = openErr t ∧ Like (openSt s) (openSt t) ∧ openN s = openN t := by
  have hl : openL s = openL t := by unfold openL; rw [h.redoL, h.blkB]
  have hn : openN s = openN t := by unfold openN; rw [h.blkB]
  have hw := Like.settleW (openL t) h
  unfold openErr openSt
  rw [hl, h.1, h.2.2.1, hn]
  split
  · exact ⟨rfl, h, rfl⟩
  · split
    · exact ⟨rfl, h, rfl⟩
    · split
      · exact ⟨rfl, h, rfl⟩
      · exact ⟨hw.1, hw.2, rfl⟩
theorem Like.lread {s t : St} (h : Like s t) (f : Bool) (k : Int) : lreadB s f k = lreadB t f k ∧ lreadErr s f k = lreadErr t f k := by
  unfold lreadB lreadErr
  rw [h.1, h.2.2.1, h.blkB]
  exact ⟨rfl, rfl⟩

theorem commitsTo_late {s s' : St} {n n' : Nat} {f f' : Bool} {l : List Bk} {x : Int} (h : CommitsTo s n f l x s' n' f') : s'.late.length ≤ s.late.length + 100 ∧ s'.firm.length = s.firm.length ∧ (n < 4294967296 → n' < 4294967296) := by
  rcases h with ⟨_, _, rfl, rfl, _⟩ | ⟨hr, _, rfl, h4⟩
  · exact ⟨by omega, rfl, id⟩
  · have hrl : l.length ≤ 40 ∧ n ≠ 4294967295 := by
      rcases hr with ⟨_, h⟩ | ⟨_, _, h⟩ | ⟨_, _, _, h⟩ | ⟨h, _, h2, _⟩
      · cases h
      · cases h
      · cases h
      · exact ⟨h.2.1, h2⟩
    have g1 := settleW_late (copiesOf (homesOf (n + 1) l)) s
    have g2 := settleW_late [⟨0, markL (n + 1) l.length⟩] (settleW s (copiesOf (homesOf (n + 1) l))).2
    have g3 := settleW_late (homesOf (n + 1) l) (settleW (settleW s (copiesOf (homesOf (n + 1) l))).2 [⟨0, markL (n + 1) l.length⟩]).2
    have k1 := settleW_firm_len (copiesOf (homesOf (n + 1) l)) s
    have k2 := settleW_firm_len [⟨0, markL (n + 1) l.length⟩] (settleW s (copiesOf (homesOf (n + 1) l))).2
    have k3 := settleW_firm_len (homesOf (n + 1) l) (settleW (settleW s (copiesOf (homesOf (n + 1) l))).2 [⟨0, markL (n + 1) l.length⟩]).2
    rw [copiesOf_length, homesOf_length] at g1
    rw [homesOf_length] at g3
    simp only [List.length_singleton] at g2
    refine ⟨?_, ?_, fun hn => ?_⟩
    · unfold Go.Proofs.Ytihoebmfanelkaa.commitW
      split
      · omega
      · split
        · omega
        · omega
    · unfold Go.Proofs.Ytihoebmfanelkaa.commitW
      split
      · exact k1
      · split
        · omega
        · omega
    · rcases h4 with ⟨_, rfl, _⟩ | ⟨_, rfl, _⟩ <;> omega
theorem openSt_late (s : St) : (openSt s).late.length ≤ s.late.length + 40 ∧ (openSt s).firm.length = s.firm.length := by
  have h1 := settleW_late (openL s) s
  have h2 := settleW_firm_len (openL s) s
  have h3 := openL_few s
  unfold openSt
  split
  · exact ⟨by omega, rfl⟩
  · split
    · exact ⟨by omega, rfl⟩
    · split
      · exact ⟨by omega, rfl⟩
      · exact ⟨by omega, h2⟩

/-- Two devices of the call's own, and the block that holds both. -/
structure Core (w w' : World) (bp p m : Nat) (F G : List Nat) (s t : St) (v2 v3 : Value) : Prop where
  dev : Dev w' p F s
  ref : Ref w' m G t
  blk : Blk w' bp 34 #[.pointer (some ⟨p, 0, none⟩), .pointer (some ⟨m, 0, none⟩), v2, v3]
  only : Only [] w w'
  fnew : ∀ j ∈ F, w.heap.size ≤ j ∧ j < w'.heap.size
  gnew : ∀ j ∈ G, w.heap.size ≤ j ∧ j < w'.heap.size
  bold : w.heap.size ≤ bp
  apart : ∀ j ∈ F, j ∉ G
  bF : bp ∉ F
  bG : bp ∉ G
/-- The two logs. -/
structure Logs (w w' : World) (bp p m : Nat) (F G : List Nat) (lp xp : Nat) (n1 : Nat) (f1 : Bool) (n2 : Nat) (f2 : Bool) : Prop where
  log : LogB w' lp p n1 f1
  rlog : RLogB w' xp m n2 f2
  lF : lp ∉ F
  lG : lp ∉ G
  xF : xp ∉ F
  xG : xp ∉ G
  ne : lp ≠ xp
  lb : lp ≠ bp
  xb : xp ≠ bp
  lold : w.heap.size ≤ lp
  xold : w.heap.size ≤ xp

section
variable {w w1 w2 : World} {bp p m lp xp n1 n2 : Nat} {F F' G G' S : List Nat} {s t s' t' : St} {v2 v3 : Value} {f1 f2 : Bool}
theorem Core.lt (h : Core w w1 bp p m F G s t v2 v3) : bp < w1.heap.size := Blk.lt h.blk
theorem Core.keep (h : Core w w1 bp p m F G s t v2 v3) (k : Only [] w1 w2) : Core w w2 bp p m F G s t v2 v3 :=
  ⟨h.dev.kept k (by simp), h.ref.kept k (by simp), Blk.kept h.blk k (by simp), h.only.trans k, fun j hj => ⟨(h.fnew j hj).1, Nat.lt_of_lt_of_le (h.fnew j hj).2 k.size⟩,
    fun j hj => ⟨(h.gnew j hj).1, Nat.lt_of_lt_of_le (h.gnew j hj).2 k.size⟩, h.bold, h.apart, h.bF, h.bG⟩
theorem Logs.keep (h : Logs w w1 bp p m F G lp xp n1 f1 n2 f2) (k : Only [] w1 w2) : Logs w w2 bp p m F G lp xp n1 f1 n2 f2 :=
  ⟨Blk.kept h.log k (by simp), Blk.kept h.rlog k (by simp), h.lF, h.lG, h.xF, h.xG, h.ne, h.lb, h.xb, h.lold, h.xold⟩
/-- The program's device turns. -/
theorem Core.turnF (h : Core w w1 bp p m F G s t v2 v3) (hd : Dev w2 p F' s') (k : Only S w1 w2) (hS : ∀ i ∈ S, w.heap.size ≤ i ∧ i ∉ G ∧ i ≠ bp) (hF' : ∀ j ∈ F', (j ∈ F ∨ w1.heap.size ≤ j) ∧ j < w2.heap.size) :
    Core w w2 bp p m F' G s' t v2 v3 := by
  have hlt := h.lt
  refine ⟨hd, h.ref.kept k (fun i hi hm => (hS i hm).2.1 hi), Blk.kept h.blk k (fun hm => (hS _ hm).2.2 rfl), h.only.then k (fun i hi => .inr (hS i hi).1), fun j hj => ⟨?_, (hF' j hj).2⟩,
    fun j hj => ⟨(h.gnew j hj).1, Nat.lt_of_lt_of_le (h.gnew j hj).2 k.size⟩, h.bold, fun j hj hg => ?_, fun hb => ?_, h.bG⟩
  · rcases (hF' j hj).1 with h' | h'
    · exact (h.fnew j h').1
    · have := h.only.size; omega
  · rcases (hF' j hj).1 with h' | h'
    · exact h.apart j h' hg
    · have := (h.gnew j hg).2; omega
  · rcases (hF' _ hb).1 with h' | h'
    · exact h.bF h'
    · omega
theorem Logs.turnF {n1' : Nat} {f1' : Bool} (h : Logs w w1 bp p m F G lp xp n1 f1 n2 f2) (hd : LogB w2 lp p n1' f1') (k : Only S w1 w2) (hS : xp ∉ S) (hF' : ∀ j ∈ F', (j ∈ F ∨ w1.heap.size ≤ j) ∧ j < w2.heap.size) :
    Logs w w2 bp p m F' G lp xp n1' f1' n2 f2 := by
  have h1 := Blk.lt h.log
  have h2 := Blk.lt h.rlog
  refine ⟨hd, Blk.kept h.rlog k hS, fun hm => ?_, h.lG, fun hm => ?_, h.xG, h.ne, h.lb, h.xb, h.lold, h.xold⟩
  · rcases (hF' _ hm).1 with h' | h'
    · exact h.lF h'
    · omega
  · rcases (hF' _ hm).1 with h' | h'
    · exact h.xF h'
    · omega
/-- The document's device turns. -/
theorem Core.turnG (h : Core w w1 bp p m F G s t v2 v3) (hd : Ref w2 m G' t') (k : Only S w1 w2) (hS : ∀ i ∈ S, w.heap.size ≤ i ∧ i ∉ F ∧ i ≠ bp) (hG' : ∀ j ∈ G', (j ∈ G ∨ w1.heap.size ≤ j) ∧ j < w2.heap.size) :
    Core w w2 bp p m F G' s t' v2 v3 := by
  have hlt := h.lt
  refine ⟨h.dev.kept k (fun i hi hm => (hS i hm).2.1 hi), hd, Blk.kept h.blk k (fun hm => (hS _ hm).2.2 rfl), h.only.then k (fun i hi => .inr (hS i hi).1), fun j hj => ⟨(h.fnew j hj).1, Nat.lt_of_lt_of_le (h.fnew j hj).2 k.size⟩,
    fun j hj => ⟨?_, (hG' j hj).2⟩, h.bold, fun j hj hg => ?_, h.bF, fun hb => ?_⟩
  · rcases (hG' j hj).1 with h' | h'
    · exact (h.gnew j h').1
    · have := h.only.size; omega
  · rcases (hG' j hg).1 with h' | h'
    · exact h.apart j hj h'
    · have := (h.fnew j hj).2; omega
  · rcases (hG' _ hb).1 with h' | h'
    · exact h.bG h'
    · omega
theorem Logs.turnG {n2' : Nat} {f2' : Bool} (h : Logs w w1 bp p m F G lp xp n1 f1 n2 f2) (hd : RLogB w2 xp m n2' f2') (k : Only S w1 w2) (hS : lp ∉ S) (hG' : ∀ j ∈ G', (j ∈ G ∨ w1.heap.size ≤ j) ∧ j < w2.heap.size) :
    Logs w w2 bp p m F G' lp xp n1 f1 n2' f2' := by
  have h1 := Blk.lt h.log
  have h2 := Blk.lt h.rlog
  refine ⟨Blk.kept h.log k hS, hd, h.lF, fun hm => ?_, h.xF, fun hm => ?_, h.ne, h.lb, h.xb, h.lold, h.xold⟩
  · rcases (hG' _ hm).1 with h' | h'
    · exact h.lG h'
    · omega
  · rcases (hG' _ hm).1 with h' | h'
    · exact h.xG h'
    · omega

/-- The program's device did something. -/
theorem Core.did (h : Core w w1 bp p m F G s t v2 v3) (k : Did w1 w2 p F s') : ∃ F', Core w w2 bp p m F' G s' t v2 v3 ∧ ∀ lp xp n1 f1 n2 f2, Logs w w1 bp p m F G lp xp n1 f1 n2 f2 → Logs w w2 bp p m F' G lp xp n1 f1 n2 f2 := by
  obtain ⟨F1, d1, k1, hF1⟩ := k
  obtain ⟨F2, d2, hsub, hlt⟩ := d1.trim
  have hF2 : ∀ j ∈ F2, (j ∈ F ∨ w1.heap.size ≤ j) ∧ j < w2.heap.size := fun j hj => ⟨hF1.out j (hsub j hj), hlt j hj⟩
  refine ⟨F2, h.turnF d2 k1 (fun i hi => ⟨(h.fnew i hi).1, h.apart i hi, fun e => h.bF (e ▸ hi)⟩) hF2, fun lp xp n1 f1 n2 f2 hl => hl.turnF (Blk.kept hl.log k1 hl.lF) k1 hl.xF hF2⟩
theorem Core.rdid (h : Core w w1 bp p m F G s t v2 v3) (k : RefDid w1 w2 m G t') : ∃ G', Core w w2 bp p m F G' s t' v2 v3 ∧ ∀ lp xp n1 f1 n2 f2, Logs w w1 bp p m F G lp xp n1 f1 n2 f2 → Logs w w2 bp p m F G' lp xp n1 f1 n2 f2 := by
  obtain ⟨G1, d1, k1, hG1⟩ := k
  refine ⟨G1, h.turnG d1 k1 (fun i hi => ⟨(h.gnew i hi).1, fun hf => h.apart i hf hi, fun e => h.bG (e ▸ hi)⟩) hG1, fun lp xp n1 f1 n2 f2 hl => hl.turnG (Blk.kept hl.rlog k1 hl.xG) k1 hl.lG hG1⟩
theorem Core.acted {n' : Nat} {f' : Bool} (h : Core w w1 bp p m F G s t v2 v3) (hl : Logs w w1 bp p m F G lp xp n1 f1 n2 f2) (k : Acted w1 w2 lp p F s' n' f') : ∃ F', Core w w2 bp p m F' G s' t v2 v3 ∧ Logs w w2 bp p m F' G lp xp n' f' n2 f2 := by
  obtain ⟨F', h1, h2, h3, h4⟩ := k
  refine ⟨F', h.turnF h1 h3 (fun i hi => ?_) h4, hl.turnF h2 h3 (fun hm => ?_) h4⟩
  · rcases List.mem_cons.1 hi with rfl | hi
    · exact ⟨hl.lold, hl.lG, hl.lb⟩
    · exact ⟨(h.fnew i hi).1, h.apart i hi, fun e => h.bF (e ▸ hi)⟩
  · rcases List.mem_cons.1 hm with hm | hm
    · exact hl.ne hm.symm
    · exact hl.xF hm
theorem Core.racted {n' : Nat} {f' : Bool} (h : Core w w1 bp p m F G s t v2 v3) (hl : Logs w w1 bp p m F G lp xp n1 f1 n2 f2) (k : RActed w1 w2 xp m G t' n' f') : ∃ G', Core w w2 bp p m F G' s t' v2 v3 ∧ Logs w w2 bp p m F G' lp xp n1 f1 n' f' := by
  obtain ⟨G', h1, h2, h3, h4⟩ := k
  refine ⟨G', h.turnG h1 h3 (fun i hi => ?_) h4, hl.turnG h2 h3 (fun hm => ?_) h4⟩
  · rcases List.mem_cons.1 hi with rfl | hi
    · exact ⟨hl.xold, hl.xF, hl.xb⟩
    · exact ⟨(h.gnew i hi).1, fun hf => h.apart i hf hi, fun e => h.bG (e ▸ hi)⟩
  · rcases List.mem_cons.1 hm with hm | hm
    · exact hl.ne hm
    · exact hl.lG hm
theorem Core.cells (h : Core w w1 bp p m F G s t v2 v3) : w1.cell? ⟨bp, 0, none⟩ = some (.pointer (some ⟨p, 0, none⟩)) ∧ w1.cell? ⟨bp, 1, none⟩ = some (.pointer (some ⟨m, 0, none⟩)) ∧ w1.cell? ⟨bp, 2, none⟩ = some v2 ∧ w1.cell? ⟨bp, 3, none⟩ = some v3 := by
  have c0 := Blk.cell h.blk 0
  have c1 := Blk.cell h.blk 1
  have c2 := Blk.cell h.blk 2
  have c3 := Blk.cell h.blk 3
  simp only [List.getElem?_toArray, List.getElem?_cons_zero, List.getElem?_cons_succ] at c0 c1 c2 c3
  exact ⟨c0, c1, c2, c3⟩
/-- The logs are laid into the block. -/
theorem Core.lay (h : Core w w1 bp p m F G s t v2 v3) (u2 u3 : Value) : Core w ((w1.setCell ⟨bp, 2, none⟩ u2).setCell ⟨bp, 3, none⟩ u3) bp p m F G s t u2 u3 ∧ Only [bp] w1 ((w1.setCell ⟨bp, 2, none⟩ u2).setCell ⟨bp, 3, none⟩ u3) := by
  have k : Only [bp] w1 ((w1.setCell ⟨bp, 2, none⟩ u2).setCell ⟨bp, 3, none⟩ u3) := (Only.set w1 [bp] (by simp) _).trans (Only.set _ [bp] (by simp) _)
  have b2 := Blk.set (Blk.set h.blk 2 u2) 3 u3
  refine ⟨⟨h.dev.kept k (by intro i hi hm; exact h.bF (by simp at hm; exact hm ▸ hi)), h.ref.kept k (by intro i hi hm; exact h.bG (by simp at hm; exact hm ▸ hi)), by simpa using b2, h.only.then k (fun i hi => .inr (by simp at hi; rw [hi]; exact h.bold)),
    fun j hj => ⟨(h.fnew j hj).1, Nat.lt_of_lt_of_le (h.fnew j hj).2 k.size⟩, fun j hj => ⟨(h.gnew j hj).1, Nat.lt_of_lt_of_le (h.gnew j hj).2 k.size⟩, h.bold, h.apart, h.bF, h.bG⟩, k⟩
end

/-- Behind k acts: both devices answer alike, and both logs are there, with the same number, or neither is. -/
inductive Duo (w w' : World) (bp p m N k : Nat) : Prop
  | none (F G : List Nat) (s t : St) (core : Core w w' bp p m F G s t (.pointer none) (.pointer none)) (like : Like s t) (len : s.firm.length = N) (late : s.late.length ≤ 200 * k)
  | some (F G : List Nat) (s t : St) (lp xp n : Nat) (f : Bool) (core : Core w w' bp p m F G s t (.pointer (some ⟨lp, 0, none⟩)) (.pointer (some ⟨xp, 0, none⟩))) (logs : Logs w w' bp p m F G lp xp n f n f)
      (like : Like s t) (len : s.firm.length = N) (late : s.late.length ≤ 200 * k) (few : n < 4294967296) (big : 42 ≤ N)

end Go.Proofs.Ytihoebmfanelkaa
