/- LaneWaits: a request that is out is sent again at the latest every eighth tick. -/
import Derived.Test.YtjogdilkdnnhnaaStore8
namespace Go.Proofs.Ytjogdilkdnnhnaa
open Go.RowKit

/-- A line with a request that is out, as an Ask leaves it and ticks turn it. -/
structure Waits (b : ByteArray) (quiet : Int) (l : Ln) : Prop where
  ok : l.Ok
  out : l.out = true
  body : l.body = b
  q0 : 0 ≤ quiet
  l1 : 1 ≤ l.left
  l8 : quiet + l.left ≤ 8
  g1 : 1 ≤ l.gap
  g8 : l.gap ≤ 8

theorem Waits.asked {l : Ln} {b : ByteArray} (hl : l.Ok) (h : askE l = 0) : Waits b 0 (askL l b) := by
  unfold askE at h
  unfold askL
  by_cases h1 : l.out = true
  · rw [if_pos h1] at h; omega
  · rw [if_neg h1] at h ⊢
    by_cases h2 : l.seq = 4294967295
    · rw [if_pos h2] at h; omega
    · rw [if_neg h2]
      have := hl.seq
      unfold U at this
      exact ⟨⟨hl.life, hl.boot, ⟨by simp only []; omega, by simp only []; omega⟩, ⟨by simp, by simp⟩, ⟨by simp, by simp⟩⟩, rfl, rfl, by simp, by simp, by simp, by simp, by simp⟩

theorem Waits.quiet {q : Int} {l : Ln} {b : ByteArray} (h : Waits b q l) : q ≤ 7 := by have := h.l1; have := h.l8; omega

theorem Waits.tick {q : Int} {l : Ln} {b : ByteArray} (h : Waits b q l) : Waits b (if tickB l then 0 else q + 1) (tickL l) := by
  obtain ⟨⟨k1, k2, k3, _, _⟩, ho, hb, q0, l1, l8, g1, g8⟩ := h
  obtain ⟨x0, x1, x2, x3, x4, x5, x6⟩ := l
  simp only at k1 k2 k3 ho hb l1 l8 g1 g8
  subst ho
  by_cases h1 : 1 < x5
  · have e1 : tickL ⟨x0, x1, x2, true, x4, x5, x6⟩ = ⟨x0, x1, x2, true, x4, x5 - 1, x6⟩ := by simp [tickL, h1]
    have e2 : tickB ⟨x0, x1, x2, true, x4, x5, x6⟩ = false := by simp [tickB, h1]
    rw [e1, e2, if_neg (by simp)]
    exact ⟨⟨k1, k2, k3, ⟨by simp only []; omega, by simp only []; omega⟩, ⟨by simp only []; omega, by simp only []; omega⟩⟩, rfl, hb, by omega, by simp only []; omega, by simp only []; omega, g1, g8⟩
  · have e1 : tickL ⟨x0, x1, x2, true, x4, x5, x6⟩ = ⟨x0, x1, x2, true, x4, gapL x6, gapL x6⟩ := by simp [tickL, h1]
    have e2 : tickB ⟨x0, x1, x2, true, x4, x5, x6⟩ = true := by simp [tickB, h1]
    have e3 : 1 ≤ gapL x6 ∧ gapL x6 ≤ 8 := by unfold gapL; repeat' split <;> omega
    rw [e1, e2, if_pos rfl]
    exact ⟨⟨k1, k2, k3, ⟨by simp only []; omega, by simp only []; omega⟩, ⟨by simp only []; omega, by simp only []; omega⟩⟩, rfl, hb, by omega, e3.1, by simp only []; omega, e3.1, e3.2⟩

set_option maxHeartbeats 1000000 in
theorem laneWaits_walk (l : Ln) (n : Int) (w : World) (hl : l.Ok) (n0 : 0 ≤ n) (n1 : n ≤ 255) :
    Calls Try.prog 7 #[lnV l, .int .u8 n] w fun e w' => e = .returned (.bool true) ∧ Only [] w w' := by
  have A1 := fun w => ask_any l ⟨#[98, 111, 100, 121]⟩ w hl
  have A2 := fun h => Waits.asked (b := ⟨#[98, 111, 100, 121]⟩) hl h
  generalize askL l ⟨#[98, 111, 100, 121]⟩ = p at A1 A2
  generalize askE l = er at A1 A2
  clear hl
  obtain ⟨x0, x1, x2, x3, x4, x5, x6⟩ := l
  replace A1 := Lib.hid A1
  replace A2 := Lib.hid A2
  by_cases he : er = 0
  · subst he
    have hp := A2.out rfl
    obtain ⟨p0, p1, p2, p3, p4, p5, p6⟩ := p
    go_enter Try.func7, Try.ntmps7
    go_wp2_with fail
    refine (alive_any _).mono ?_; rintro e w1 ⟨rfl, k1⟩
    have j1 := k1.boxed
    obtain ⟨c0, c1, c2, c3, c4, c5, c6⟩ := (Blk.new w 30 _).seven k1 (by simp)
    go_wp2_with fail
    refine (A1.out _).mono ?_; rintro e w2 ⟨rfl, k2⟩
    have j2 := j1.trans k2
    clear c0 c1 c2 c3 c4 c5 c6 k1 k2
    go_wp2_with fail
    go_loopw [7, 8] (fun q i wr => ∃ (a b : Int) (m : Ln), q = .int .i64 a ∧ i = .int .i64 b ∧ 0 ≤ b ∧ b ≤ n ∧ Waits ⟨#[98, 111, 100, 121]⟩ a m ∧ Blk wr w2.heap.size 30 #[.int .u32 m.life, .int .u32 m.boot, .int .u32 m.seq, .bool m.out, .string m.body, .int .i64 m.left, .int .i64 m.gap] ∧ Only [] w2 wr) (fun _ i _ => (n - intOf i).toNat)
    case atStart => exact ⟨0, 0, ⟨p0, p1, p2, p3, p4, p5, p6⟩, rfl, rfl, by omega, by omega, hp, Blk.new _ _ _, (Only.refl [] _).alloc _⟩
    case round =>
      obtain ⟨a, b, m, rfl, rfl, b0, b1, hm, hb, ho⟩ := hrel
      by_cases hlt : b < n
      · have T := fun w => tick_any m w hm.ok
        have ht := hm.tick
        have q7 := hm.quiet
        have q0 := hm.q0
        clear hm hp
        generalize tickL m = t at T ht
        generalize tickB m = ag at T ht
        replace T := Lib.hid T
        obtain ⟨m0, m1, m2, m3, m4, m5, m6⟩ := m
        obtain ⟨t0, t1, t2, t3, t4, t5, t6⟩ := t
        have hout := ht.out
        have hbody := ht.body
        simp only at hb hout hbody
        subst hout hbody
        obtain ⟨c0, c1, c2, c3, c4, c5, c6⟩ := hb.seven (Only.refl [] _) (by simp)
        rcases ag with _ | _
        · replace ht : Waits ⟨#[98, 111, 100, 121]⟩ (a + 1) ⟨t0, t1, t2, true, ⟨#[98, 111, 100, 121]⟩, t5, t6⟩ := by simpa using ht
          have q9 := ht.quiet
          have q8 : decide (8 ≤ a + 1) = false := by simp; omega
          replace ht := Lib.hid ht
          go_wp2_with fail
          refine (T.out _).mono ?_; rintro e w3 ⟨rfl, k3⟩
          have b3 := (hb.kept k3 (by simp)).alloc (.cells #[.int .u32 t0, .int .u32 t1, .int .u32 t2, .bool true, .string ⟨#[98, 111, 100, 121]⟩, .int .i64 t5, .int .i64 t6] 30)
          clear c0 c1 c2 c3 c4 c5 c6
          obtain ⟨c0, c1, c2, c3, c4, c5, c6⟩ := b3.seven (Only.refl [] _) (by simp)
          have f0 := b3.free 0
          have f1 := b3.free 1
          have f2 := b3.free 2
          have f3 := b3.free 3
          have f4 := b3.free 4
          have f5 := b3.free 5
          have f6 := b3.free 6
          have hqa : IntKind.i64.wrap (a + 1) = a + 1 := by rw [IntKind.wrap_i64]; omega
          go_wp2_with fail
          go_roundw
          case rel => exact ⟨_, b + 1, ⟨t0, t1, t2, true, ⟨#[98, 111, 100, 121]⟩, t5, t6⟩, rfl, by go_num, by omega, by omega, ht.out, b3.store7, ((ho.trans k3).alloc _).store7 (.inr (Nat.le_refl _))⟩
          case measure => simp [intOf]; omega
        · replace ht : Waits ⟨#[98, 111, 100, 121]⟩ 0 ⟨t0, t1, t2, true, ⟨#[98, 111, 100, 121]⟩, t5, t6⟩ := by simpa using ht
          replace ht := Lib.hid ht
          go_wp2_with fail
          refine (T.out _).mono ?_; rintro e w3 ⟨rfl, k3⟩
          have b3 := (hb.kept k3 (by simp)).alloc (.cells #[.int .u32 t0, .int .u32 t1, .int .u32 t2, .bool true, .string ⟨#[98, 111, 100, 121]⟩, .int .i64 t5, .int .i64 t6] 30)
          clear c0 c1 c2 c3 c4 c5 c6
          obtain ⟨c0, c1, c2, c3, c4, c5, c6⟩ := b3.seven (Only.refl [] _) (by simp)
          have f0 := b3.free 0
          have f1 := b3.free 1
          have f2 := b3.free 2
          have f3 := b3.free 3
          have f4 := b3.free 4
          have f5 := b3.free 5
          have f6 := b3.free 6
          have hqa : IntKind.i64.wrap (a + 1) = a + 1 := by rw [IntKind.wrap_i64]; omega
          go_wp2_with fail
          go_roundw
          case rel => exact ⟨_, b + 1, ⟨t0, t1, t2, true, ⟨#[98, 111, 100, 121]⟩, t5, t6⟩, rfl, by go_num, by omega, by omega, ht.out, b3.store7, ((ho.trans k3).alloc _).store7 (.inr (Nat.le_refl _))⟩
          case measure => simp [intOf]; omega
      · clear hp
        go_wp2_with fail
        refine (alive_any _).mono ?_; rintro e w3 ⟨rfl, k3⟩
        go_wp2
        go_ret
        exact ⟨rfl, (j2.trans ho).trans k3⟩
  · have q0 : (er == 0) = false := by simpa using he
    have q1 : (er != 0) = true := by simpa using he
    obtain ⟨p0, p1, p2, p3, p4, p5, p6⟩ := p
    go_enter Try.func7, Try.ntmps7
    go_wp2_with fail
    refine (alive_any _).mono ?_; rintro e w1 ⟨rfl, k1⟩
    have j1 := k1.boxed
    obtain ⟨c0, c1, c2, c3, c4, c5, c6⟩ := (Blk.new w 30 _).seven k1 (by simp)
    go_wp2_with fail
    refine (A1.out _).mono ?_; rintro e w2 ⟨rfl, k2⟩
    have j2 := j1.trans k2
    clear c0 c1 c2 c3 c4 c5 c6
    go_wp2_with fail
    refine (alive_any _).mono ?_; rintro e w3 ⟨rfl, k3⟩
    go_wp2
    go_ret
    exact ⟨rfl, j2.trans k3.boxed⟩

end Go.Proofs.Ytjogdilkdnnhnaa
