/- ProtoReads: the packet of any bytes, or their refusal. -/
import Derived.Test.YtjnbajpckohnnaaAlive9
import Derived.Test.YtjnbajpckohnnaaRread9
namespace Go.Proofs.Ytjnbajpckohnnaa
open Go.RowKit

theorem protoReads_walk (s : ByteArray) (w : World) :
    Calls Try.prog 4 #[.string s] w fun e w' => e = .returned (.bool true) ∧ Only [] w w' := by
  by_cases h0 : 2000 < s.size
  · have e0 : (2000 : Int) < (s.size : Int) := by omega
    have e0' : decide ((2000 : Int) < (s.size : Int)) = true := decide_eq_true e0
    clear h0
    go_enter Try.func4, Try.ntmps4
    go_wp2_with fail
    refine (alive_any _).mono ?_; rintro e w1 ⟨rfl, k1⟩
    go_wp2_with fail
    refine (alive_any _).mono ?_; rintro e w2 ⟨rfl, k2⟩
    go_wp2
    go_ret
    exact ⟨rfl, k1.trans k2⟩
  have e0 : ¬ (2000 : Int) < (s.size : Int) := by omega
  have e0' : decide ((2000 : Int) < (s.size : Int)) = false := decide_eq_false e0
  clear h0
  have C1 := fun w => read_any w s (by omega)
  have C2 := fun w => rread_any w s (by omega)
  generalize readP s.data.toList = Q at C1 C2
  generalize readE s.data.toList = E at C1 C2
  replace C1 := Lib.hid C1
  replace C2 := Lib.hid C2
  go_enter Try.func4, Try.ntmps4
  go_wp2_with fail
  refine (alive_any _).mono ?_; rintro e w1 ⟨rfl, k1⟩
  go_wp2_with fail
  refine (C1.out _).mono ?_; rintro e w2 ⟨rfl, k2⟩
  have j2 := k1.trans k2
  go_wp2_with (first
      | (refine wpList_store_pk Q zPk rfl (.tmp 3) (.tmp 16) rfl w2.heap.size rfl rfl (Blk.new w2 _ _) ?_; intro w3 h3 k3; have j3 := laid_new k3))
  skip
  refine (C2.out _).mono ?_; rintro e w4 ⟨rfl, k4⟩
  have h4 := h3.kept k4 (by simp)
  go_wp2_with (first
      | (refine wpList_store_pk Q zPk rfl (.tmp 5) (.tmp 21) rfl w4.heap.size rfl rfl (Blk.new w4 _ _) ?_; intro w5 h5 k5; have j5 := laid_new k5))
  skip
  refine (alive_any _).mono ?_; rintro e w6 ⟨rfl, k6⟩
  have f6 := (h4.kept j5 (by simp)).kept k6 (by simp)
  have h6 := h5.kept k6 (by simp)
  have j6 := (((j2.trans j3).trans k4).trans j5).trans k6
  clear h3 h4 h5 k1 k2 j2 k3 j3 k4 k5 j5 k6
  go_wp2_with (first
      | (refine wpList_load_pk Q rfl (.tmp 3) rfl w2.heap.size rfl f6 ?_)
      | (refine wpList_load_pk Q rfl (.tmp 5) rfl w4.heap.size rfl h6 ?_)
      | (refine wpList_eql_pk Q Q rfl (.tmp 25) (.tmp 26) _ rfl rfl rfl true (decide_eq_true rfl) ?_))
  go_ret
  exact ⟨rfl, j6⟩

end Go.Proofs.Ytjnbajpckohnnaa
