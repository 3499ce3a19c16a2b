/- spend, Fuse: what turns the device's own cells alone. -/
import Derived.Test.YtihoebmfanelkaaRead
import Derived.StillTailTactics
import Derived.Laws.CopyOwn
import Derived.Lib.BufferWrite
namespace Go.Proofs.Ytihoebmfanelkaa
open Go.RowKit

theorem Only.set (w : World) (F : List Nat) {p i : Nat} (hp : p ∈ F) (u : Value) : Only F w (w.setCell ⟨p, i, none⟩ u) := (Only.refl F w).setCell (.inl hp) u

theorem Dev.mem {w : World} {p : Nat} {F : List Nat} {s : St} (h : Dev w p F s) : p ∈ F := by
  obtain ⟨gs, gl, v, _, _, _, _, _, ⟨f1, _⟩, _⟩ := h
  exact f1

theorem Dev.setFuse {w : World} {p : Nat} {F : List Nat} {s : St} (h : Dev w p F s) (n : Int) (h0 : -9223372036854775808 ≤ n) (h1 : n ≤ 9223372036854775807) : Dev (w.setCell ⟨p, 3, none⟩ (.int .i64 n)) p F { s with fuse := n } := by
  obtain ⟨gs, gl, v, b1, b2, b3, b4, ⟨n1, n2, n3, n4, n5, n6⟩, hf, fine⟩ := h
  have k : Only [p] w (w.setCell ⟨p, 3, none⟩ (.int .i64 n)) := Only.set w [p] (by simp) _
  exact ⟨gs, gl, v, by simpa using b1.set 3 (.int .i64 n), b2.kept k (by simpa using fun e => n1 e.symm), b3.kept k (by simpa using fun e => n2 e.symm),
    ownsRow_kept' b4 k (fun g hg => by simp; rintro rfl; exact n4 hg), ⟨n1, n2, n3, n4, n5, n6⟩, hf, ⟨fine.pos, fine.few, fine.firm, fine.late, h0, h1⟩⟩

theorem Dev.setDead {w : World} {p : Nat} {F : List Nat} {s : St} (h : Dev w p F s) (d : Bool) : Dev (w.setCell ⟨p, 4, none⟩ (.bool d)) p F { s with dead := d } := by
  obtain ⟨gs, gl, v, b1, b2, b3, b4, ⟨n1, n2, n3, n4, n5, n6⟩, hf, fine⟩ := h
  have k : Only [p] w (w.setCell ⟨p, 4, none⟩ (.bool d)) := Only.set w [p] (by simp) _
  exact ⟨gs, gl, v, by simpa using b1.set 4 (.bool d), b2.kept k (by simpa using fun e => n1 e.symm), b3.kept k (by simpa using fun e => n2 e.symm),
    ownsRow_kept' b4 k (fun g hg => by simp; rintro rfl; exact n4 hg), ⟨n1, n2, n3, n4, n5, n6⟩, hf, ⟨fine.pos, fine.few, fine.firm, fine.late, fine.lo, fine.hi⟩⟩

/-- Behind an act that makes no memory. -/
def Same (w w' : World) (p : Nat) (F : List Nat) (s : St) : Prop := Dev w' p F s ∧ Only F w w'

theorem spend_any (w : World) (p : Nat) (F : List Nat) (s : St) (hd : Dev w p F s) :
    Calls Try.prog 53 #[.pointer (some ⟨p, 0, none⟩)] w fun e w' => e = .returned (.bool (burns s)) ∧ Same w w' p F (burnt s) := by
  have hmem := hd.mem
  obtain ⟨firm, late, fuse, dead⟩ := s
  obtain ⟨gs, gl, v, hb, _, _, _, _, _, fine⟩ := id hd
  have flo := fine.lo
  have fhi := fine.hi
  have c3 := hb.cell 3
  have c4 := hb.cell 4
  have f3 := hb.free 3
  have f4 := hb.free 4
  simp only [List.getElem?_toArray, List.getElem?_cons_zero, List.getElem?_cons_succ] at c3 c4
  simp only at flo fhi
  have hdone : ∀ n, -9223372036854775808 ≤ n → n ≤ 9223372036854775807 → Same w (w.setCell ⟨p, 3, none⟩ (.int .i64 n)) p F ⟨firm, late, n, dead⟩ := fun n h0 h1 => ⟨hd.setFuse n h0 h1, Only.set w F hmem _⟩
  have hdead : Same w (w.setCell ⟨p, 4, none⟩ (.bool true)) p F ⟨firm, late, fuse, true⟩ := ⟨hd.setDead true, Only.set w F hmem _⟩
  have hrest : Same w w p F ⟨firm, late, fuse, dead⟩ := ⟨hd, Only.refl F w⟩
  have hdone := Lib.hid hdone
  have hdead := Lib.hid hdead
  have hrest := Lib.hid hrest
  clear hb hd fine
  by_cases h0 : fuse = 0
  · subst h0
    go_enter Try.func53, Try.ntmps53
    go_wp2
    go_ret
    refine ⟨by simp [burns], ?_⟩
    simpa [burnt, burns] using hdead.out
  · cases hdd : dead with
    | true =>
      rw [hdd] at c4 hrest
      go_enter Try.func53, Try.ntmps53
      go_wp2
      go_ret
      refine ⟨by simp [burns], ?_⟩
      simpa [burnt, burns] using hrest.out
    | false =>
      rw [hdd] at c4 hrest hdone
      by_cases h1 : 0 < fuse
      · have hw : wrap64 (fuse - 1) = fuse - 1 := by simp only [wrap64]; omega
        go_enter Try.func53, Try.ntmps53
        go_wp2
        go_ret
        refine ⟨by simp [burns, h0], ?_⟩
        simpa [burnt, burns, h0, h1] using hdone.out (fuse - 1) (by omega) (by omega)
      · go_enter Try.func53, Try.ntmps53
        go_wp2
        go_ret
        refine ⟨by simp [burns, h0], ?_⟩
        have e1 : (if 0 < fuse then fuse - 1 else fuse) = fuse := if_neg (by omega)
        simpa [burnt, burns, h0, e1] using hrest.out

theorem fuse_any (w : World) (p : Nat) (F : List Nat) (s : St) (n : Int) (h0 : -9223372036854775808 ≤ n) (h1 : n ≤ 9223372036854775807) (hd : Dev w p F s) :
    Calls Try.prog 19 #[.pointer (some ⟨p, 0, none⟩), .int .i64 n] w fun e w' => e = .returned (.tuple #[]) ∧ Same w w' p F (lit s n) := by
  have hmem := hd.mem
  obtain ⟨gs, gl, v, hb, _, _, _, _, _, fine⟩ := id hd
  have c3 := hb.cell 3
  have f3 := hb.free 3
  simp only [List.getElem?_toArray, List.getElem?_cons_zero, List.getElem?_cons_succ] at c3
  have hdone : Same w (w.setCell ⟨p, 3, none⟩ (.int .i64 n)) p F (lit s n) := ⟨hd.setFuse n h0 h1, Only.set w F hmem _⟩
  have hdone := Lib.hid hdone
  clear hb hd fine
  go_enter Try.func19, Try.ntmps19
  go_wp2
  go_end0
  exact ⟨rfl, hdone.out⟩
theorem fuse_nil (w : World) (n : Int) :
    Calls Try.prog 19 #[.pointer none, .int .i64 n] w fun e w' => e = .returned (.tuple #[]) ∧ w' = w := by
  go_enter Try.func19, Try.ntmps19
  go_wp2
  go_end0
  exact ⟨rfl, rfl⟩
theorem crash_nil (w : World) (n : Int) :
    Calls Try.prog 21 #[.pointer none, .int .u64 n] w fun e w' => e = .returned (.tuple #[]) ∧ w' = w := by
  go_enter Try.func21, Try.ntmps21
  go_wp2
  first
  | (go_end0; exact ⟨rfl, rfl⟩)
  | (refine bodyPost_ret (results_none rfl _ _ _) rfl ?_; exact ⟨rfl, rfl⟩)
theorem write_nil (w : World) (k : Int) (s : ByteArray) :
    Calls Try.prog 33 #[.pointer none, .int .i64 k, .string s] w fun e w' => e = .returned (.int .i64 5) ∧ w' = w := by
  go_enter Try.func33, Try.ntmps33
  go_wp2
  go_ret
  exact ⟨rfl, rfl⟩
theorem barrier_nil (w : World) :
    Calls Try.prog 58 #[.pointer none] w fun e w' => e = .returned (.int .i64 5) ∧ w' = w := by
  go_enter Try.func58, Try.ntmps58
  go_wp2
  go_ret
  exact ⟨rfl, rfl⟩

end Go.Proofs.Ytihoebmfanelkaa
