/- Two devices that answer alike: a fuse below nought is none. -/
import Derived.Test.YtihoebmfanelkaaRef4
namespace Go.Proofs.Ytihoebmfanelkaa
open Go.RowKit

theorem RefDid.from {w w0 w' : World} {p : Nat} {G : List Nat} {s : St} (k : Only [] w w0) (h : RefDid w0 w' p G s) : RefDid w w' p G s := by
  obtain ⟨G', h1, h2, h3⟩ := h
  exact ⟨G', h1, (k.more (T := G) (by simp)).then h2 (fun _ hi => .inl hi), fun i hi => ⟨(h3 i hi).1.imp id (fun h => Nat.le_trans k.size h), (h3 i hi).2⟩⟩
theorem RefDid.mono {w w' : World} {p : Nat} {F G : List Nat} {s : St} (h : RefDid w w' p F s) (hG : ∀ i ∈ F, i ∈ G) : RefDid w w' p G s := by
  obtain ⟨F', h1, h2, h3⟩ := h
  exact ⟨F', h1, h2.more (fun i hi => .inl (hG i hi)), fun i hi => ⟨(h3 i hi).1.imp (hG i) id, (h3 i hi).2⟩⟩
theorem RefDid.cell {w w' : World} {p : Nat} {F : List Nat} {s : St} (h : RefDid w w' p F s) {a : Addr} {v : Value} (hc : w.cell? a = some v) (ha : a.block ∉ F) : w'.cell? a = some v := by
  obtain ⟨F', h1, h2, h3⟩ := h
  exact h2.cell hc ha

/-! Two devices that answer alike: a fuse below nought is none. -/
def Like (s t : St) : Prop := s.firm = t.firm ∧ s.late = t.late ∧ s.dead = t.dead ∧ (s.fuse = t.fuse ∨ (s.fuse < 0 ∧ t.fuse < 0))

theorem Like.burns {s t : St} (h : Like s t) : burns s = burns t := by
  obtain ⟨_, _, h3, h4⟩ := h
  have : s.fuse = 0 ↔ t.fuse = 0 := by omega
  simp only [Go.Proofs.Ytihoebmfanelkaa.burns, h3, this]
theorem Like.burnt {s t : St} (h : Like s t) : Like (burnt s) (burnt t) := by
  have hb := h.burns
  obtain ⟨h1, h2, h3, h4⟩ := h
  refine ⟨by rw [burnt_firm, burnt_firm, h1], by rw [burnt_late, burnt_late, h2], ?_, ?_⟩
  · unfold Go.Proofs.Ytihoebmfanelkaa.burnt
    rw [hb]
    split
    · exact h3
    · rfl
  · unfold Go.Proofs.Ytihoebmfanelkaa.burnt
    rw [hb]
    split
    · show (if 0 < s.fuse then s.fuse - 1 else s.fuse) = (if 0 < t.fuse then t.fuse - 1 else t.fuse) ∨ ((if 0 < s.fuse then s.fuse - 1 else s.fuse) < 0 ∧ (if 0 < t.fuse then t.fuse - 1 else t.fuse) < 0)
      split <;> split <;> omega
    · exact h4
theorem Like.writeErr {s t : St} (h : Like s t) (k : Int) (b : List UInt8) : writeErr s k b = writeErr t k b := by
  unfold Go.Proofs.Ytihoebmfanelkaa.writeErr
  rw [h.1, h.burns]
theorem Like.written {s t : St} (h : Like s t) (k : Int) (b : List UInt8) : Like (written s k b) (written t k b) := by
  have hb := h.burnt
  unfold Go.Proofs.Ytihoebmfanelkaa.written
  rw [h.1, h.burns]
  split
  · exact h
  · split
    · exact hb
    · obtain ⟨h1, h2, h3, h4⟩ := hb
      exact ⟨h1, by simp only; rw [h.2.1], h3, h4⟩
theorem Like.settled {s t : St} (h : Like s t) (keep : Nat) : Like (settledAll s keep) (settledAll t keep) := by
  obtain ⟨h1, h2, h3, h4⟩ := h
  exact ⟨by simp only [settledAll, h1, h2], rfl, h3, h4⟩
theorem Like.barErr {s t : St} (h : Like s t) : barErr s = barErr t := by
  unfold Go.Proofs.Ytihoebmfanelkaa.barErr
  rw [h.burns]
theorem Like.barred {s t : St} (h : Like s t) : Like (barred s) (barred t) := by
  unfold Go.Proofs.Ytihoebmfanelkaa.barred
  rw [h.burns]
  split
  · exact h.burnt
  · exact h.burnt.settled _
theorem Like.lit {s t : St} (h : Like s t) (n : Int) : Like (lit s n) (lit t (if n < 0 then -1 else n)) := by
  obtain ⟨h1, h2, h3, _⟩ := h
  refine ⟨h1, h2, h3, ?_⟩
  simp only [Go.Proofs.Ytihoebmfanelkaa.lit]
  split <;> omega
theorem Like.crashed {s t : St} (h : Like s t) (keep : Nat) : Like (crashed s keep) (crashed t keep) := by
  obtain ⟨h1, h2, _, _⟩ := h.settled keep
  exact ⟨h1, h2, rfl, .inl rfl⟩
theorem Like.read {s t : St} (h : Like s t) (k : Int) : readB s k = readB t k ∧ readErr s k = readErr t k := by
  obtain ⟨h1, h2, h3, _⟩ := h
  simp only [readB, readErr, h1, h2, h3, and_self]

end Go.Proofs.Ytihoebmfanelkaa
