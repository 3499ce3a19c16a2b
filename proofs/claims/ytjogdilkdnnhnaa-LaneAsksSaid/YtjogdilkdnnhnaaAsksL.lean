/- LaneAsks: every line with a request, and every line a tick later. -/
import Derived.Test.YtjogdilkdnnhnaaAlive8
namespace Go.Proofs.Ytjogdilkdnnhnaa
open Go.RowKit

theorem laneAsks_walk (l : Ln) (b : ByteArray) (w : World) (hl : l.Ok) :
    Calls Try.prog 4 #[lnV l, .string b] w fun e w' => e = .returned (.bool true) ∧ Only [] w w' := by
  have A1 := fun w => ask_any l b w hl
  have A2 := fun w => rask_any l b w hl
  have A3 := fun w => tick_any l w hl
  have A4 := fun w => rtick_any l w hl
  generalize askL l b = p at A1 A2
  generalize askE l = er at A1 A2
  generalize tickL l = q at A3 A4
  generalize tickB l = ag at A3 A4
  clear hl
  obtain ⟨x0, x1, x2, x3, x4, x5, x6⟩ := l
  obtain ⟨p0, p1, p2, p3, p4, p5, p6⟩ := p
  obtain ⟨q0, q1, q2, q3, q4, q5, q6⟩ := q
  replace A1 := Lib.hid A1
  replace A2 := Lib.hid A2
  replace A3 := Lib.hid A3
  replace A4 := Lib.hid A4
  go_enter Try.func4, Try.ntmps4
  go_wp2_with fail
  refine (alive_any _).mono ?_; rintro e w1 ⟨rfl, k1⟩
  have b0 := (Blk.new w 30 _).kept k1 (by simp)
  have j1 := k1.boxed
  obtain ⟨c0, c1, c2, c3, c4, c5, c6⟩ := b0.seven (Only.refl [] _) (by simp)
  go_wp2_with fail
  refine (A1.out _).mono ?_; rintro e w2 ⟨rfl, k2⟩
  replace b0 := b0.kept k2 (by simp)
  have j2 := j1.trans k2
  clear c0 c1 c2 c3 c4 c5 c6
  obtain ⟨c0, c1, c2, c3, c4, c5, c6⟩ := (b0.alloc (.cells #[.int .u32 p0, .int .u32 p1, .int .u32 p2, .bool p3, .string p4, .int .i64 p5, .int .i64 p6] 30)).seven (Only.refl [] _) (by simp)
  go_wp2_with fail
  refine (A2.out _).mono ?_; rintro e w3 ⟨rfl, k3⟩
  have b1 := (Blk.new w2 30 _).kept k3 (by simp)
  replace b0 := b0.kept k3.boxed (by simp)
  have j3 := j2.trans k3.boxed
  clear c0 c1 c2 c3 c4 c5 c6
  obtain ⟨c0, c1, c2, c3, c4, c5, c6⟩ := (b0.alloc (.cells #[.int .u32 p0, .int .u32 p1, .int .u32 p2, .bool p3, .string p4, .int .i64 p5, .int .i64 p6] 30)).seven (Only.refl [] _) (by simp)
  go_wp2_with fail
  refine (A3.out _).mono ?_; rintro e w4 ⟨rfl, k4⟩
  have b2 := (Blk.new w3 30 _).kept k4 (by simp)
  replace b1 := b1.kept k4.boxed (by simp)
  replace b0 := b0.kept k4.boxed (by simp)
  have j4 := j3.trans k4.boxed
  clear c0 c1 c2 c3 c4 c5 c6
  obtain ⟨c0, c1, c2, c3, c4, c5, c6⟩ := (b0.alloc (.cells #[.int .u32 q0, .int .u32 q1, .int .u32 q2, .bool q3, .string q4, .int .i64 q5, .int .i64 q6] 30)).seven (Only.refl [] _) (by simp)
  go_wp2_with fail
  refine (A4.out _).mono ?_; rintro e w5 ⟨rfl, k5⟩
  have b3 := (Blk.new w4 30 _).kept k5 (by simp)
  replace b2 := b2.kept k5.boxed (by simp)
  replace b1 := b1.kept k5.boxed (by simp)
  have j5 := j4.trans k5.boxed
  clear c0 c1 c2 c3 c4 c5 c6 b0
  go_wp2_with fail
  refine (alive_any _).mono ?_; rintro e w6 ⟨rfl, k6⟩
  have b4 := (Blk.new w5 30 _).kept k6 (by simp)
  replace b3 := b3.kept k6.boxed (by simp)
  replace b2 := b2.kept k6.boxed (by simp)
  replace b1 := b1.kept k6.boxed (by simp)
  have j6 := j5.trans k6.boxed
  obtain ⟨c0, c1, c2, c3, c4, c5, c6⟩ := b1.seven (Only.refl [] _) (by simp)
  obtain ⟨d0, d1, d2, d3, d4, d5, d6⟩ := b2.seven (Only.refl [] _) (by simp)
  obtain ⟨e0, e1, e2, e3, e4, e5, e6⟩ := b3.seven (Only.refl [] _) (by simp)
  obtain ⟨f0, f1, f2, f3, f4, f5, f6⟩ := b4.seven (Only.refl [] _) (by simp)
  clear b1 b2 b3 b4
  go_wp2
  go_ret
  exact ⟨rfl, j6⟩

end Go.Proofs.Ytjogdilkdnnhnaa
