/- Crash, Barrier. -/
import Derived.Test.YtihoebmfanelkaaSettle
namespace Go.Proofs.Ytihoebmfanelkaa
open Go.RowKit

theorem Same.trans {w w1 w2 : World} {p : Nat} {F : List Nat} {s t : St} (h : Same w w1 p F s) (k : Same w1 w2 p F t) : Same w w2 p F t := ⟨k.1, h.2.trans k.2⟩

theorem crash_any (w : World) (p : Nat) (F : List Nat) (s : St) (keep : Nat) (hkeep : keep < 18446744073709551616) (hd : Dev w p F s) :
    Calls Try.prog 21 #[.pointer (some ⟨p, 0, none⟩), .int .u64 (keep : Int)] w fun e w' => e = .returned (.tuple #[]) ∧ Same w w' p F (crashed s keep) := by
  have hx : ((keep : Int)) = keep := rfl
  go_enter Try.func21, Try.ntmps21
  go_wp2_with fail
  refine (settle_any w p F s keep hkeep hd).mono ?_
  rintro e w1 ⟨rfl, h1⟩
  obtain ⟨gs, gl, v, hb, _⟩ := id h1.1
  have c3 := hb.cell 3
  have c4 := hb.cell 4
  have f3 := hb.free 3
  have f4 := hb.free 4
  simp only [List.getElem?_toArray, List.getElem?_cons_zero, List.getElem?_cons_succ] at c3 c4
  have hmem := hd.mem
  have k1 := h1.1.setFuse (-1) (by decide) (by decide)
  have k2 := k1.setDead false
  have hend : Same w ((w1.setCell ⟨p, 3, none⟩ (.int .i64 (-1))).setCell ⟨p, 4, none⟩ (.bool false)) p F (crashed s keep) :=
    ⟨k2, (h1.2.setCell (.inl hmem) _).setCell (.inl hmem) _⟩
  have hend := Lib.hid hend
  clear hb k1 k2 h1 hd
  go_wp2
  go_end0
  exact ⟨rfl, hend.out⟩

theorem barrier_any (w : World) (p : Nat) (F : List Nat) (s : St) (hd : Dev w p F s) :
    Calls Try.prog 58 #[.pointer (some ⟨p, 0, none⟩)] w fun e w' => e = .returned (.int .i64 (barErr s)) ∧ Same w w' p F (barred s) := by
  go_enter Try.func58, Try.ntmps58
  go_wp2_with fail
  refine (spend_any w p F s hd).mono ?_
  rintro e w1 ⟨rfl, h1⟩
  cases hb : burns s with
  | false =>
    have h2 : Same w w1 p F (barred s) := by simpa [barred, hb] using h1
    have h2 := Lib.hid h2
    clear h1
    go_wp2
    go_ret
    exact ⟨by simp [barErr, hb], h2.out⟩
  | true =>
    go_wp2_with fail
    refine (settle_any w1 p F _ 18446744073709551615 (by decide) h1.1).mono ?_
    rintro e w2 ⟨rfl, h2⟩
    have h3 : Same w w2 p F (barred s) := by simpa [barred, hb] using h1.trans h2
    have h3 := Lib.hid h3
    clear h1 h2
    go_wp2
    go_ret
    exact ⟨by simp [barErr, hb], h3.out⟩

end Go.Proofs.Ytihoebmfanelkaa
