/- ProtoWrites: whether every packet may be, and its bytes. -/
import Derived.Test.YtjnbajpckohnnaaAlive9
import Derived.Test.YtjnbajpckohnnaaRr9
import Derived.Test.YtjnbajpckohnnaaRbytes9
namespace Go.Proofs.Ytjnbajpckohnnaa
open Go.RowKit

set_option maxHeartbeats 1000000 in
theorem protoWrites_walk (p : Pk) (w : World) (ho : p.Ok) :
    Calls Try.prog 3 #[pkV p] w fun e w' => e = .returned (.bool true) ∧ Only [] w w' := by
  by_cases h0 : 1000 < p.path.size
  · have e0 : (1000 : Int) < (p.path.size : Int) := by omega
    have e0' : decide ((1000 : Int) < (p.path.size : Int)) = true := decide_eq_true e0
    clear h0
    go_enter Try.func3, Try.ntmps3
    go_wp2_with fail
    refine (alive_any _).mono ?_; rintro e w1 ⟨rfl, k1⟩
    have b1 := (Blk.new w 27 (pkA p)).kept k1 (by simp)
    have j1 := k1.boxed
    have c17 : w1.cell? ⟨w.heap.size, 17, none⟩ = some (.string p.path) := b1.cell 17
    have c18 : w1.cell? ⟨w.heap.size, 18, none⟩ = some (.string p.other) := b1.cell 18
    have c19 : w1.cell? ⟨w.heap.size, 19, none⟩ = some (.string p.data) := b1.cell 19
    clear b1 k1
    go_wp2_with fail
    refine (alive_any _).mono ?_; rintro e w2 ⟨rfl, k2⟩
    go_wp2
    go_ret
    exact ⟨rfl, j1.trans k2⟩
  have e0 : ¬ (1000 : Int) < (p.path.size : Int) := by omega
  have e0' : decide ((1000 : Int) < (p.path.size : Int)) = false := decide_eq_false e0
  clear h0
  by_cases h1 : 1000 < p.other.size
  · have e1 : (1000 : Int) < (p.other.size : Int) := by omega
    have e1' : decide ((1000 : Int) < (p.other.size : Int)) = true := decide_eq_true e1
    clear h1
    go_enter Try.func3, Try.ntmps3
    go_wp2_with fail
    refine (alive_any _).mono ?_; rintro e w1 ⟨rfl, k1⟩
    have b1 := (Blk.new w 27 (pkA p)).kept k1 (by simp)
    have j1 := k1.boxed
    have c17 : w1.cell? ⟨w.heap.size, 17, none⟩ = some (.string p.path) := b1.cell 17
    have c18 : w1.cell? ⟨w.heap.size, 18, none⟩ = some (.string p.other) := b1.cell 18
    have c19 : w1.cell? ⟨w.heap.size, 19, none⟩ = some (.string p.data) := b1.cell 19
    clear b1 k1
    go_wp2_with fail
    refine (alive_any _).mono ?_; rintro e w2 ⟨rfl, k2⟩
    go_wp2
    go_ret
    exact ⟨rfl, j1.trans k2⟩
  have e1 : ¬ (1000 : Int) < (p.other.size : Int) := by omega
  have e1' : decide ((1000 : Int) < (p.other.size : Int)) = false := decide_eq_false e1
  clear h1
  by_cases h2 : 1000 < p.data.size
  · have e2 : (1000 : Int) < (p.data.size : Int) := by omega
    have e2' : decide ((1000 : Int) < (p.data.size : Int)) = true := decide_eq_true e2
    clear h2
    go_enter Try.func3, Try.ntmps3
    go_wp2_with fail
    refine (alive_any _).mono ?_; rintro e w1 ⟨rfl, k1⟩
    have b1 := (Blk.new w 27 (pkA p)).kept k1 (by simp)
    have j1 := k1.boxed
    have c17 : w1.cell? ⟨w.heap.size, 17, none⟩ = some (.string p.path) := b1.cell 17
    have c18 : w1.cell? ⟨w.heap.size, 18, none⟩ = some (.string p.other) := b1.cell 18
    have c19 : w1.cell? ⟨w.heap.size, 19, none⟩ = some (.string p.data) := b1.cell 19
    clear b1 k1
    go_wp2_with fail
    refine (alive_any _).mono ?_; rintro e w2 ⟨rfl, k2⟩
    go_wp2
    go_ret
    exact ⟨rfl, j1.trans k2⟩
  have e2 : ¬ (1000 : Int) < (p.data.size : Int) := by omega
  have e2' : decide ((1000 : Int) < (p.data.size : Int)) = false := decide_eq_false e2
  clear h2
  by_cases hr : p.Right
  · have C1 := fun w => write_yes w p ho hr
    have C2 := fun w => rright_any w p
    have C3 := fun w => right_yes w p hr
    have C4 := fun w => rbytes_any w p ho hr
    rw [decide_eq_true hr] at C2
    generalize strOf (bytesP p) = B at C1 C4
    replace C4 := Lib.hid C4
    replace C1 := Lib.hid C1
    replace C2 := Lib.hid C2
    replace C3 := Lib.hid C3
    clear hr ho
    go_enter Try.func3, Try.ntmps3
    go_wp2_with fail
    refine (alive_any _).mono ?_; rintro e w1 ⟨rfl, k1⟩
    have b1 := (Blk.new w 27 (pkA p)).kept k1 (by simp)
    have j1 := k1.boxed
    have c17 : w1.cell? ⟨w.heap.size, 17, none⟩ = some (.string p.path) := b1.cell 17
    have c18 : w1.cell? ⟨w.heap.size, 18, none⟩ = some (.string p.other) := b1.cell 18
    have c19 : w1.cell? ⟨w.heap.size, 19, none⟩ = some (.string p.data) := b1.cell 19
    clear k1
    go_wp2_with (first
        | (refine wpList_load_pk p rfl (.tmp 1) rfl w.heap.size rfl b1 ?_))
    refine (C1.out _).mono ?_; rintro e w2 ⟨rfl, k2⟩
    have b2 := b1.kept k2 (by simp)
    have j2 := j1.trans k2
    clear b1 c17 c18 c19 k2
    go_wp2_with (first
        | (refine wpList_load_pk p rfl (.tmp 1) rfl w.heap.size rfl b2 ?_))
    refine (C2.out _).mono ?_; rintro e w3 ⟨rfl, k3⟩
    have b3 := b2.kept k3 (by simp)
    have j3 := j2.trans k3
    clear b2 k3
    go_wp2_with fail
    refine (alive_any _).mono ?_; rintro e w4 ⟨rfl, k4⟩
    have b4 := b3.kept k4 (by simp)
    have j4 := j3.trans k4
    clear b3 k4
    go_wp2_with (first
        | (refine wpList_load_pk p rfl (.tmp 1) rfl w.heap.size rfl b4 ?_))
    refine (C3.out _).mono ?_; rintro e w5 ⟨rfl, k5⟩
    have b5 := b4.kept k5 (by simp)
    have j5 := j4.trans k5
    clear b4 k5
    go_wp2_with (first
        | (refine wpList_load_pk p rfl (.tmp 1) rfl w.heap.size rfl b5 ?_))
    refine (C4.out _).mono ?_; rintro e w6 ⟨rfl, k6⟩
    go_wp2
    go_ret
    exact ⟨rfl, j5.trans k6⟩
  · have C1 := fun w => write_no w p hr
    have C2 := fun w => rright_any w p
    have C3 := fun w => right_no w p hr
    rw [decide_eq_false hr] at C2
    replace C1 := Lib.hid C1
    replace C2 := Lib.hid C2
    replace C3 := Lib.hid C3
    clear hr ho
    go_enter Try.func3, Try.ntmps3
    go_wp2_with fail
    refine (alive_any _).mono ?_; rintro e w1 ⟨rfl, k1⟩
    have b1 := (Blk.new w 27 (pkA p)).kept k1 (by simp)
    have j1 := k1.boxed
    have c17 : w1.cell? ⟨w.heap.size, 17, none⟩ = some (.string p.path) := b1.cell 17
    have c18 : w1.cell? ⟨w.heap.size, 18, none⟩ = some (.string p.other) := b1.cell 18
    have c19 : w1.cell? ⟨w.heap.size, 19, none⟩ = some (.string p.data) := b1.cell 19
    clear k1
    go_wp2_with (first
        | (refine wpList_load_pk p rfl (.tmp 1) rfl w.heap.size rfl b1 ?_))
    refine (C1.out _).mono ?_; rintro e w2 ⟨rfl, k2⟩
    have b2 := b1.kept k2 (by simp)
    have j2 := j1.trans k2
    clear b1 c17 c18 c19 k2
    go_wp2_with (first
        | (refine wpList_load_pk p rfl (.tmp 1) rfl w.heap.size rfl b2 ?_))
    refine (C2.out _).mono ?_; rintro e w3 ⟨rfl, k3⟩
    have b3 := b2.kept k3 (by simp)
    have j3 := j2.trans k3
    clear b2 k3
    go_wp2_with fail
    refine (alive_any _).mono ?_; rintro e w4 ⟨rfl, k4⟩
    have b4 := b3.kept k4 (by simp)
    have j4 := j3.trans k4
    clear b3 k4
    go_wp2_with (first
        | (refine wpList_load_pk p rfl (.tmp 1) rfl w.heap.size rfl b4 ?_))
    refine (C3.out _).mono ?_; rintro e w5 ⟨rfl, k5⟩
    have b5 := b4.kept k5 (by simp)
    have j5 := j4.trans k5
    clear b4 k5
    go_wp2
    go_ret
    exact ⟨rfl, j5⟩

end Go.Proofs.Ytjnbajpckohnnaa
