/- LaneJudges: what every request is of every seat, and the seat behind it. -/
import Derived.Test.YtjogdilkdnnhnaaAlive8
import Derived.Deep.RegionHeld3
namespace Go.Proofs.Ytjogdilkdnnhnaa
open Go.RowKit

/-- A boxed seat, and what has turned since. -/
def Held8 (w0 : World) (ty : TypeId) (a b c : Value) (w' : World) : Prop := Only [] (w0.alloc (.cells #[a, b, c] ty)) w'

theorem held8 {w0 w1 w2 : World} {ty : TypeId} {a b c : Value}
    (h : w1.cell? ⟨w0.heap.size, 0, none⟩ = some a ∧ w1.cell? ⟨w0.heap.size, 1, none⟩ = some b ∧ w1.cell? ⟨w0.heap.size, 2, none⟩ = some c ∧ Held8 w0 ty a b c w1) (k : Only [] w1 w2) :
    w2.cell? ⟨w0.heap.size, 0, none⟩ = some a ∧ w2.cell? ⟨w0.heap.size, 1, none⟩ = some b ∧ w2.cell? ⟨w0.heap.size, 2, none⟩ = some c ∧ Held8 w0 ty a b c w2 := by
  have q : Only [] _ w2 := Only.trans h.2.2.2 k
  obtain ⟨h0, h1, h2⟩ := (Blk.new w0 ty #[a, b, c]).three q (by simp)
  exact ⟨h0, h1, h2, q⟩

set_option maxHeartbeats 1000000 in
theorem laneJudges_walk (s : Sat) (li sq : Int) (r : ByteArray) (w : World) (hs : s.Ok) (h3 : U li) (h4 : U sq) :
    Calls Try.prog 3 #[satV s, .int .u32 li, .int .u32 sq, .string r] w fun e w' => e = .returned (.bool true) ∧ Only [] w w' := by
  have A1 := fun w => judge_any s li sq w hs h3 h4
  have A2 := fun w => rjudge_any s li sq w hs h3 h4
  have A3 := fun w => done_any s li sq r w hs h3 h4
  have A4 := fun w => rdone_any s li sq r w hs h3 h4
  generalize judgeL s li sq = j at A1 A2
  generalize doneL s li sq r = q at A3 A4
  clear hs h3 h4
  obtain ⟨a, b, c⟩ := s
  obtain ⟨q0, q1, q2⟩ := q
  replace A1 := Lib.hid A1
  replace A2 := Lib.hid A2
  replace A3 := Lib.hid A3
  replace A4 := Lib.hid A4
  go_enter Try.func3, Try.ntmps3
  go_wp2_with fail
  refine (alive_any _).mono ?_; rintro e w1 ⟨rfl, k1⟩
  have S1 := held8 (⟨(Blk.new w 24 #[.int .u32 a, .int .u32 b, .string c]).cell 0, (Blk.new w 24 #[.int .u32 a, .int .u32 b, .string c]).cell 1, (Blk.new w 24 #[.int .u32 a, .int .u32 b, .string c]).cell 2, Only.refl [] _⟩) k1
  go_wp2_with fail
  go_region_held3 (fun w' => w'.cell? ⟨w.heap.size, 0, none⟩ = some (.int .u32 a) ∧ w'.cell? ⟨w.heap.size, 1, none⟩ = some (.int .u32 b) ∧ w'.cell? ⟨w.heap.size, 2, none⟩ = some (.string c) ∧ Held8 w 24 (.int .u32 a) (.int .u32 b) (.string c) w')
    (first | exact held8 S1 (Only.refl [] _).drew | exact held8 S1 (Only.refl [] _) | exact S1 | exact held8 (by assumption) kn)
    (first
      | (go_at_call 9; refine (alive_any _).mono ?_; rintro e wn ⟨rfl, kn⟩)
      | (go_at_call 10; refine (A1.out _).mono ?_; rintro e wn ⟨rfl, kn⟩)
      | (go_at_call 11; refine (A2.out _).mono ?_; rintro e wn ⟨rfl, kn⟩)
      | (go_at_call 12; refine (A3.out _).mono ?_; rintro e wn ⟨rfl, kn⟩)
      | (go_at_call 13; refine (A4.out _).mono ?_; rintro e wn ⟨rfl, kn⟩))
  all_goals
    have q : wn.cell? ⟨w.heap.size, 0, none⟩ = some (.int .u32 a) ∧ wn.cell? ⟨w.heap.size, 1, none⟩ = some (.int .u32 b) ∧ wn.cell? ⟨w.heap.size, 2, none⟩ = some (.string c) ∧ Held8 w 24 (.int .u32 a) (.int .u32 b) (.string c) wn := by assumption
    go_wp2
    go_ret
    exact ⟨rfl, Only.boxed q.2.2.2⟩

end Go.Proofs.Ytjogdilkdnnhnaa
