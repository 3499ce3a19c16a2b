/- LaneHears: what every line makes of every answer. -/
import Derived.Test.YtjogdilkdnnhnaaAlive8
namespace Go.Proofs.Ytjogdilkdnnhnaa
open Go.RowKit

theorem laneHears_walk (l : Ln) (li bo ak sq : Int) (w : World) :
    Calls Try.prog 5 #[lnV l, .int .u32 li, .int .u32 bo, .int .u32 ak, .int .u32 sq] w fun e w' => e = .returned (.bool true) ∧ Only [] w w' := by
  have A1 := fun w => hear_any l li bo ak sq w
  have A2 := fun w => rhear_any l li bo ak sq w
  generalize hearL l li bo ak sq = p at A1 A2
  generalize hearK l li bo ak sq = er at A1 A2
  obtain ⟨x0, x1, x2, x3, x4, x5, x6⟩ := l
  obtain ⟨p0, p1, p2, p3, p4, p5, p6⟩ := p
  replace A1 := Lib.hid A1
  replace A2 := Lib.hid A2
  go_enter Try.func5, Try.ntmps5
  go_wp2_with fail
  refine (alive_any _).mono ?_; rintro e w1 ⟨rfl, k1⟩
  have b0 := (Blk.new w 30 _).kept k1 (by simp)
  have j1 := k1.boxed
  obtain ⟨c0, c1, c2, c3, c4, c5, c6⟩ := b0.seven (Only.refl [] _) (by simp)
  go_wp2_with fail
  refine (A1.out _).mono ?_; rintro e w2 ⟨rfl, k2⟩
  replace b0 := b0.kept k2 (by simp)
  have j2 := j1.trans k2
  clear c0 c1 c2 c3 c4 c5 c6
  obtain ⟨c0, c1, c2, c3, c4, c5, c6⟩ := (b0.alloc (.cells #[.int .u32 p0, .int .u32 p1, .int .u32 p2, .bool p3, .string p4, .int .i64 p5, .int .i64 p6] 30)).seven (Only.refl [] _) (by simp)
  go_wp2_with fail
  refine (A2.out _).mono ?_; rintro e w3 ⟨rfl, k3⟩
  have b1 := (Blk.new w2 30 _).kept k3 (by simp)
  have j3 := j2.trans k3.boxed
  clear c0 c1 c2 c3 c4 c5 c6 b0
  go_wp2_with fail
  refine (alive_any _).mono ?_; rintro e w6 ⟨rfl, k6⟩
  have b4 := (Blk.new w3 30 _).kept k6 (by simp)
  replace b1 := b1.kept k6.boxed (by simp)
  have j6 := j3.trans k6.boxed
  obtain ⟨c0, c1, c2, c3, c4, c5, c6⟩ := b1.seven (Only.refl [] _) (by simp)
  obtain ⟨f0, f1, f2, f3, f4, f5, f6⟩ := b4.seven (Only.refl [] _) (by simp)
  clear b1 b4
  go_wp2
  go_ret
  exact ⟨rfl, j6⟩

end Go.Proofs.Ytjogdilkdnnhnaa
