/- The walks of a reader, more: lists, and a new reader. -/
import Derived.Test.YtjnbajpckohnnaaRd3
namespace Go.Proofs.Ytjnbajpckohnnaa
open Go.RowKit

attribute [local go_sem] Forth.normal Forth.exit Forth.ret Forth.panic

theorem TookL.of_took {w : World} {p g : Nat} {bs : List UInt8} {err : Nat} {e : Ending} {w' : World} (h : Took w p g (.slice none 0 0) bs err e w') : TookL w p g [] bs err e w' :=
  ⟨none, 0, h.1, .inl rfl, h.2⟩

/-- A new reader: its pointer's block, and that of its bytes, are new. -/
def NewRd (w : World) (bs : List UInt8) (e : Ending) (w' : World) : Prop :=
  ∃ p g, e = .returned (.pointer (some ⟨p, 0, none⟩)) ∧ Rd w' p g bs 0 ∧ w.heap.size ≤ p ∧ w.heap.size ≤ g ∧ Only [] w w'

def NewRd2 (w : World) (bs : List UInt8) (e : Ending) (w' : World) : Prop :=
  ∃ p g, e = .returned (.pointer (some ⟨p, 0, none⟩)) ∧ Rd w' p g bs 0 ∧ w.heap.size ≤ p ∧ w.heap.size ≤ g ∧ Only [] w w' ∧ g < w'.heap.size

theorem newReader_two (w : World) (s : ByteArray) (hs : s.size ≤ 140737488351232) :
    Calls Try.prog 24 #[.string s] w (NewRd2 w s.data.toList) := by
  have hl : s.data.toList.length = s.size := by simp
  have HL := Lib.hid hl
  clear hl
  go_enter Try.func24, Try.ntmps24
  go_wp2_with (refine wpList_to_bytes _ rfl 9 40 5 (.tmp 3) rfl Try.underlying9 Try.underlying40 Try.underlying5 s rfl (by unfold maxLen; omega) ?_; intro w2 c k2 hc1 hc2 hb2 hlt2)
  go_ret
  have hlen := HL.out
  have hnew := Blk.new w2 81 #[.slice (some ⟨w.heap.size, 0, none⟩) s.size c, .int .i64 0]
  refine ⟨w2.heap.size, w.heap.size, rfl, ⟨0, c, ⟨by rw [hlen]; exact hnew, by omega, by rw [hlen]; exact hc1, hc2, hb2.kept ((Only.refl [] w2).alloc _) (by simp)⟩⟩, k2.size, Nat.le_refl _, k2.alloc _, by simp; omega⟩

theorem newReader_any (w : World) (s : ByteArray) (hs : s.size ≤ 140737488351232) :
    Calls Try.prog 24 #[.string s] w (NewRd w s.data.toList) :=
  (newReader_two w s hs).mono fun _ _ ⟨p, g, h1, h2, h3, h4, h5, _⟩ => ⟨p, g, h1, h2, h3, h4, h5⟩

end Go.Proofs.Ytjnbajpckohnnaa
