/- Two states that answer alike. (Out of stage 4's texts.) -/
import Derived.Test.YthpjkhmkjhgbkaaGreatDoorRlog5
namespace Go.Proofs.YthpjkhmkjhgbkaaGreatDoor
open Go.RowKit

theorem Like.settleW : ∀ (l : List Bk) {s t : St}, Like s t → (settleW s l).1 = (settleW t l).1 ∧ Like (settleW s l).2 (settleW t l).2
  | [], _, _, h => ⟨h.barErr, h.barred⟩
  | x :: r, s, t, h => by
    have e := h.writeErr x.at_ x.data
    have hw := h.written x.at_ x.data
    rw [Go.Proofs.YthpjkhmkjhgbkaaGreatDoor.settleW, Go.Proofs.YthpjkhmkjhgbkaaGreatDoor.settleW, ← e]
    split
    · exact Like.settleW r hw
    · exact ⟨rfl, hw⟩
theorem Like.commitW {s t : St} (h : Like s t) (n : Nat) (l : List Bk) : (commitW s n l).1 = (commitW t n l).1 ∧ Like (commitW s n l).2 (commitW t n l).2 := by
  have h1 := Like.settleW (copiesOf (homesOf (n + 1) l)) h
  have h2 := Like.settleW [⟨0, markL (n + 1) l.length⟩] h1.2
  have h3 := Like.settleW (homesOf (n + 1) l) h2.2
  unfold Go.Proofs.YthpjkhmkjhgbkaaGreatDoor.commitW
  rw [← h1.1, ← h2.1]
  split
  · exact h1
  · split
    · exact h2
    · exact h3
theorem Like.commits {s t s' t' : St} (h : Like s t) {n n1 n2 : Nat} {f f1 f2 : Bool} {l : List Bk} {x y : Int} (hs : CommitsTo s n f l x s' n1 f1) (ht : CommitsTo t n f l y t' n2 f2) : x = y ∧ Like s' t' ∧ n1 = n2 ∧ f1 = f2 := by
  have hN : ((s.firm.length : Int) - 41) = ((t.firm.length : Int) - 41) := by rw [h.1]
  have hc := h.commitW n l
  have uniq : ∀ {a b : Int}, Refusal ((t.firm.length : Int) - 41) f n l a → Refusal ((t.firm.length : Int) - 41) f n l b → a = b := by
    intro a b ha hb
    rcases ha with ⟨a1, a2⟩ | ⟨a1, a2, a3⟩ | ⟨a1, a2, a3, a4⟩ | ⟨a1, a2, a3, a4⟩ <;> rcases hb with ⟨b1, b2⟩ | ⟨b1, b2, b3⟩ | ⟨b1, b2, b3, b4⟩ | ⟨b1, b2, b3, b4⟩ <;> first
      | (exact absurd a1 b1) | (exact absurd b1 a1) | omega | (rw [a2] at b2; exact absurd b2 (by decide)) | (exact absurd a3 b3) | (exact absurd b3 a3)
  unfold CommitsTo at hs ht
  rw [hN] at hs
  rcases hs with ⟨a1, a2, rfl, rfl, rfl⟩ | ⟨a1, a2, rfl, a4⟩
  · rcases ht with ⟨b1, b2, rfl, rfl, rfl⟩ | ⟨b1, b2, rfl, b4⟩
    · exact ⟨uniq a2 b2, h, rfl, rfl⟩
    · exact absurd (uniq a2 b1) a1
  · rcases ht with ⟨b1, b2, rfl, rfl, rfl⟩ | ⟨b1, b2, rfl, b4⟩
    · exact absurd (uniq b2 a1) b1
    · have hxy : x = y := by rw [a2, b2]; exact hc.1
      refine ⟨hxy, hc.2, ?_⟩
      rcases a4 with ⟨c1, rfl, rfl⟩ | ⟨c1, rfl, rfl⟩ <;> rcases b4 with ⟨d1, rfl, rfl⟩ | ⟨d1, rfl, rfl⟩
      · exact ⟨rfl, rfl⟩
      · omega
      · omega
      · exact ⟨rfl, rfl⟩
theorem Like.redoL {s t : St} (h : Like s t) (n k : Nat) : redoL s n k = redoL t n k := by
  obtain ⟨f1, l1, u1, d1⟩ := s
  obtain ⟨f2, l2, u2, d2⟩ := t
  obtain ⟨h1, h2, _⟩ := h
  simp only at h1 h2
  subst h1; subst h2
  rfl
theorem Like.blkB {s t : St} (h : Like s t) (k : Nat) : blkB s k = blkB t k := by
  unfold Go.Proofs.YthpjkhmkjhgbkaaGreatDoor.blkB
  rw [h.1, h.2.1]
theorem Like.opens {s t : St} (h : Like s t) : openErr s = openErr t ∧ Like (openSt s) (openSt t) ∧ openN s = openN t := by
  have hl : openL s = openL t := by unfold openL; rw [h.redoL, h.blkB]
  have hn : openN s = openN t := by unfold openN; rw [h.blkB]
  have hw := Like.settleW (openL t) h
  unfold openErr openSt
  rw [hl, h.1, h.2.2.1, hn]
  split
  · exact ⟨rfl, h, rfl⟩
  · split
    · exact ⟨rfl, h, rfl⟩
    · split
      · exact ⟨rfl, h, rfl⟩
      · exact ⟨hw.1, hw.2, rfl⟩
theorem Like.lread {s t : St} (h : Like s t) (f : Bool) (k : Int) : lreadB s f k = lreadB t f k ∧ lreadErr s f k = lreadErr t f k := by
  unfold lreadB lreadErr
  rw [h.1, h.2.2.1, h.blkB]
  exact ⟨rfl, rfl⟩

theorem commitsTo_late {s s' : St} {n n' : Nat} {f f' : Bool} {l : List Bk} {x : Int} (h : CommitsTo s n f l x s' n' f') : s'.late.length ≤ s.late.length + 100 ∧ s'.firm.length = s.firm.length ∧ (n < 4294967296 → n' < 4294967296) := by
  rcases h with ⟨_, _, rfl, rfl, _⟩ | ⟨hr, _, rfl, h4⟩
  · exact ⟨by omega, rfl, id⟩
  · have hrl : l.length ≤ 40 ∧ n ≠ 4294967295 := by
      rcases hr with ⟨_, h⟩ | ⟨_, _, h⟩ | ⟨_, _, _, h⟩ | ⟨h, _, h2, _⟩
      · cases h
      · cases h
      · cases h
      · exact ⟨h.2.1, h2⟩
    have g1 := settleW_late (copiesOf (homesOf (n + 1) l)) s
    have g2 := settleW_late [⟨0, markL (n + 1) l.length⟩] (settleW s (copiesOf (homesOf (n + 1) l))).2
    have g3 := settleW_late (homesOf (n + 1) l) (settleW (settleW s (copiesOf (homesOf (n + 1) l))).2 [⟨0, markL (n + 1) l.length⟩]).2
    have k1 := settleW_firm_len (copiesOf (homesOf (n + 1) l)) s
    have k2 := settleW_firm_len [⟨0, markL (n + 1) l.length⟩] (settleW s (copiesOf (homesOf (n + 1) l))).2
    have k3 := settleW_firm_len (homesOf (n + 1) l) (settleW (settleW s (copiesOf (homesOf (n + 1) l))).2 [⟨0, markL (n + 1) l.length⟩]).2
    rw [copiesOf_length, homesOf_length] at g1
    rw [homesOf_length] at g3
    simp only [List.length_singleton] at g2
    refine ⟨?_, ?_, fun hn => ?_⟩
    · unfold Go.Proofs.YthpjkhmkjhgbkaaGreatDoor.commitW
      split
      · omega
      · split
        · omega
        · omega
    · unfold Go.Proofs.YthpjkhmkjhgbkaaGreatDoor.commitW
      split
      · exact k1
      · split
        · omega
        · omega
    · rcases h4 with ⟨_, rfl, _⟩ | ⟨_, rfl, _⟩ <;> omega
theorem openSt_late (s : St) : (openSt s).late.length ≤ s.late.length + 40 ∧ (openSt s).firm.length = s.firm.length := by
  have h1 := settleW_late (openL s) s
  have h2 := settleW_firm_len (openL s) s
  have h3 := openL_few s
  unfold openSt
  split
  · exact ⟨by omega, rfl⟩
  · split
    · exact ⟨by omega, rfl⟩
    · split
      · exact ⟨by omega, rfl⟩
      · exact ⟨by omega, h2⟩

theorem Did.only {w w' : World} {p : Nat} {F : List Nat} {s : St} (h : Did w w' p F s) : Only F w w' := by
  obtain ⟨_, _, h, _⟩ := h
  exact h
theorem RefDid.only {w w' : World} {p : Nat} {F : List Nat} {s : St} (h : RefDid w w' p F s) : Only F w w' := by
  obtain ⟨_, _, h, _⟩ := h
  exact h
theorem Like.dataS {s t : St} (h : Like s t) : dataS s = dataS t := by
  unfold Go.Proofs.YthpjkhmkjhgbkaaGreatDoor.dataS
  rw [h.1]
  refine List.map_congr_left fun j _ => ?_
  rw [h.blkB]

end Go.Proofs.YthpjkhmkjhgbkaaGreatDoor
