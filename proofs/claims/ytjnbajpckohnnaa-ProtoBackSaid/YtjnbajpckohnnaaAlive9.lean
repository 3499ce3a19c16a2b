/- What every right program answers. -/
import Derived.Test.YtjnbajpckohnnaaRead9
import Derived.Test.YtjnbajpckohnnaaWrite9
import Derived.Test.YtjnbajpckohnnaaEql9
namespace Go.Proofs.Ytjnbajpckohnnaa
open Go.RowKit

def p0 : Pk := ⟨1, 17, 2, 1, 5, 0, 0, 1, 0, 7, 3, 9, 0, 0, 0, 0, 0, ⟨#[]⟩, ⟨#[]⟩, ⟨#[97, 98, 99]⟩⟩
theorem p0_ok : p0.Ok := by
  constructor <;> simp only [I, U, p0] <;> omega
theorem p0_right : p0.Right := by decide
theorem b0_size : (strOf (bytesP p0)).size = 84 := by
  rw [strOf_size]
  decide

theorem read_back_any (w : World) (p : Pk) (ho : p.Ok) (hr : p.Right) : Calls Try.prog 12 #[.string (strOf (bytesP p))] w fun e w' => e = .returned (.tuple #[pkV p, .int .i64 0]) ∧ Only [] w w' := by
  have h := read_any w (strOf (bytesP p)) (by rw [strOf_size]; have := bytesP_most p hr; omega)
  have e : (strOf (bytesP p)).data.toList = bytesP p := by simp [strOf]
  rw [e, (read_back p ho hr).1, (read_back p ho hr).2] at h
  exact h
theorem right_yes (w : World) (p : Pk) (hr : p.Right) : Calls Try.prog 10 #[pkV p] w fun e w' => e = .returned (.bool true) ∧ Only [] w w' := by
  have h := right_any w p
  rw [decide_eq_true hr] at h
  exact h
theorem right_no (w : World) (p : Pk) (hr : ¬ p.Right) : Calls Try.prog 10 #[pkV p] w fun e w' => e = .returned (.bool false) ∧ Only [] w w' := by
  have h := right_any w p
  rw [decide_eq_false hr] at h
  exact h
/-- A packet laid into a new block. -/
theorem laid_new {w w1 : World} {o : Obj} (k : Only [w.heap.size] (w.alloc o) w1) : Only [] w w1 := ((Only.refl [] w).alloc o).then k (by intro i hi; simp at hi; subst hi; exact .inr (Nat.le_refl _))

set_option maxHeartbeats 1000000 in
theorem alive_any (w : World) : Calls Try.prog 7 #[] w fun e w' => e = .returned (.bool true) ∧ Only [] w w' := by
  have C1 := fun w => write_yes w p0 p0_ok p0_right
  have C2 := fun w => read_back_any w p0 p0_ok p0_right
  have C3 := Lib.hid (fun w => right_yes w p0 p0_right)
  have hsz := b0_size
  generalize strOf (bytesP p0) = B at C1 C2 hsz
  replace C1 := Lib.hid C1
  replace C2 := Lib.hid C2
  go_enter Try.func7, Try.ntmps7
  go_wp2_with (first
    | (refine wpList_store_pk p0 zPk rfl (.tmp 1) (.tmp 7) rfl w.heap.size rfl rfl (Blk.new w _ _) ?_
       intro w1 h1 k1
       have j1 := laid_new k1)
    | (refine wpList_load_pk p0 rfl (.tmp 1) rfl w.heap.size rfl h1 ?_))
  refine (C1.out _).mono ?_; rintro e w2 ⟨rfl, k2⟩
  have h2 := h1.kept k2 (by simp)
  have j2 := j1.trans k2
  clear h1 k1 k2 j1
  go_wp2_with fail
  refine (C2.out _).mono ?_; rintro e w3 ⟨rfl, k3⟩
  have h3 := h2.kept k3 (by simp)
  have j3 := j2.trans k3
  clear h2 k3 j2
  go_wp2_with (first
    | (refine wpList_store_pk p0 zPk rfl (.tmp 4) (.tmp 16) rfl w3.heap.size rfl rfl (Blk.new w3 _ _) ?_
       intro w4 h4 k4
       have j4 := laid_new k4
       have g4 := h3.kept j4 (by simp))
    | (refine wpList_load_pk p0 rfl (.tmp 1) rfl w.heap.size rfl g4 ?_))
  refine (C3.out _).mono ?_; rintro e w5 ⟨rfl, k5⟩
  have h5 := h4.kept k5 (by simp)
  have g5 := g4.kept k5 (by simp)
  have j5 := (j3.trans j4).trans k5
  clear h4 g4 h3 j3 j4 k4 k5
  go_wp2_with (first
    | (refine wpList_load_pk p0 rfl (.tmp 4) rfl w3.heap.size rfl h5 ?_)
    | (refine wpList_load_pk p0 rfl (.tmp 1) rfl w.heap.size rfl g5 ?_)
    | (refine wpList_eql_pk p0 p0 rfl (.tmp 34) (.tmp 35) _ rfl rfl rfl true (decide_eq_true rfl) ?_))
  go_ret
  exact ⟨rfl, j5⟩

end Go.Proofs.Ytjnbajpckohnnaa
