/- The walk of DeviceFuse. -/
import Derived.Test.YtohkfeolfemcnaaOpen
namespace Go.Proofs.Ytohkfeolfemcnaa
open Go.RowKit

theorem Run.cell {w w' : World} {p : Nat} {s : St} (h : Run w w' p s) {a : Addr} {v : Value} (hc : w.cell? a = some v) : w'.cell? a = some v := by
  obtain ⟨F, _, k, _⟩ := h
  exact k.cell hc (by simp)
theorem Run.acts {w w' : World} {p : Nat} {s : St} (h : Run w w' p s) : Only [] w w' := by
  obtain ⟨F, _, k, _⟩ := h
  exact k

/-- Behind k writes and barriers of a device with a fuse of n. -/
structure Lit (n k : Nat) (s : St) : Prop where
  four : s.firm.length = 4
  few : s.late.length ≤ k
  live : k ≤ n → s.fuse = (n : Int) - k ∧ s.dead = false
  dead : n < k → s.dead = true

theorem Lit.burns {n k : Nat} {s : St} (h : Lit n k s) : burns s = decide (k < n) := by
  by_cases h1 : k < n
  · obtain ⟨h2, h3⟩ := h.live (by omega)
    have : ¬ s.fuse = 0 := by omega
    simp [Go.Proofs.Ytohkfeolfemcnaa.burns, h3, this, h1]
  · by_cases h2 : k = n
    · obtain ⟨h3, h4⟩ := h.live (by omega)
      have : s.fuse = 0 := by omega
      simp [Go.Proofs.Ytohkfeolfemcnaa.burns, this, h1]
    · have := h.dead (by omega)
      simp [Go.Proofs.Ytohkfeolfemcnaa.burns, this, h1]
theorem Lit.burnt {n k : Nat} {s : St} (h : Lit n k s) : Lit n (k + 1) (burnt s) := by
  refine ⟨by rw [burnt_firm]; exact h.four, by rw [burnt_late]; have := h.few; omega, fun h1 => ?_, fun h1 => ?_⟩
  · have hb := h.burns
    obtain ⟨h2, h3⟩ := h.live (by omega)
    have h4 : k < n := by omega
    have h5 : 0 < s.fuse := by omega
    simp only [h4, decide_true] at hb
    simp only [Go.Proofs.Ytohkfeolfemcnaa.burnt, hb, if_true, h5, h3, and_true]
    omega
  · have hb := h.burns
    have h4 : ¬ k < n := by omega
    simp only [h4, decide_false] at hb
    simp [Go.Proofs.Ytohkfeolfemcnaa.burnt, hb]
theorem Lit.bar {n k : Nat} {s : St} (h : Lit n k s) : Lit n (k + 1) (barred s) ∧ barErr s = if k < n then 0 else 5 := by
  have hb := h.burns
  have h1 := h.burnt
  by_cases hk : k < n
  · simp only [hk, decide_true] at hb
    simp only [barred, barErr, hb, hk, if_true, Bool.true_eq_false, if_false, and_true]
    exact ⟨by rw [settledAll, settle_length]; exact h1.four, by simp [settledAll], h1.live, h1.dead⟩
  · simp only [hk, decide_false] at hb
    simp only [barred, barErr, hb, hk, if_true, if_false, and_true]
    exact h1
theorem Lit.write {n k : Nat} {s : St} (h : Lit n k s) (m : Nat) (hm : m < 4) (X : List UInt8) (hX : X.length = 256) : Lit n (k + 1) (written s m X) ∧ writeErr s m X = if k < n then 0 else 5 := by
  have hb := h.burns
  have h1 := h.burnt
  have hh : (hasBlock s.firm.length m && decide (X.length = 256)) = true := by simp [hasBlock, h.four, hX]; omega
  by_cases hk : k < n
  · simp only [hk, decide_true] at hb
    simp only [written, writeErr, hb, hh, hk, if_true, Bool.true_eq_false, if_false, and_true]
    exact ⟨h1.four, by have := h.few; simp; omega, h1.live, h1.dead⟩
  · simp only [hk, decide_false] at hb
    simp only [written, writeErr, hb, hh, hk, Bool.true_eq_false, if_true, if_false, and_true]
    exact h1
theorem Lit.dead' {n k : Nat} {s : St} (h : Lit n (k + 1) s) : s.dead = decide (n ≤ k) := by
  by_cases hk : n ≤ k
  · simp [hk, h.dead (by omega)]
  · simp [hk, (h.live (by omega)).2]
theorem Lit.start (n : Nat) : Lit n 0 (lit (fresh 4) n) := ⟨fresh_firm 4, by simp [lit, fresh], fun _ => ⟨by simp [lit], rfl⟩, fun h => by omega⟩

theorem low_two (z : Int) : ∃ m : Nat, m < 4 ∧ IntKind.i64.wrap (Int.tmod (IntKind.u64.wrap z) 4) = m := by
  have e1 : IntKind.u64.wrap z = z % 18446744073709551616 := by simp [IntKind.wrap, IntKind.bits, IntKind.signed]
  rw [e1, Int.tmod_eq_emod_of_nonneg (by omega)]
  refine ⟨(z % 18446744073709551616 % 4).toNat, by omega, ?_⟩
  rw [IntKind.wrap_i64]
  omega

set_option maxRecDepth 100000 in
set_option maxHeartbeats 4000000 in
theorem deviceFuse_walk (w : World) (n : Nat) (hn : n < 256) (A : Option Addr) (c : Nat) (l : List Deed) (h : Acts w w.heap.size A l) (hl : l.length ≤ 9223372036854775807) (keep : Nat) (hkeep : keep < 18446744073709551616) :
    Calls Try.prog 8 #[.int .u8 (n : Int), .slice A l.length c, .int .u64 (keep : Int)] w fun e w' => e = .returned (.bool true) ∧ Only [] w w' := by
  have hwrap : IntKind.i64.wrap (n : Int) = n := by rw [IntKind.wrap_i64]; omega
  have hc4 : clamp 4 = 4 := by decide
  go_enter Try.func8, Try.ntmps8
  go_wp2_with fail
  refine (alive_any w).mono ?_
  rintro e w1 ⟨rfl, g1⟩
  go_wp2_with fail
  refine (Run.new w w1 4 (by decide) (by decide) g1).mono ?_
  rintro e w2 ⟨p, rfl, h2⟩
  rw [hc4] at h2
  go_wp2_with fail
  refine (h2.fuse n (by omega) (by omega)).mono ?_
  rintro e w3 ⟨rfl, h3⟩
  have hs3 := Lib.hid (Lit.start n)
  clear h2
  go_wp2_with fail
  go_loopw [8, 9] (fun d i wr => ∃ k : Nat, k ≤ l.length ∧ k ≤ 200 ∧ i = .int .i64 k ∧ (∃ d' : Nat, d' ≤ n ∧ d' ≤ k ∧ (k ≤ n → d' = k) ∧ d = .int .i64 d') ∧ ∃ s, Run w wr p s ∧ Lit n k s) (fun _ i _ => l.length - (intOf i).toNat)
  case atStart => exact ⟨0, Nat.zero_le _, by omega, rfl, ⟨0, by omega, by omega, fun _ => rfl, rfl⟩, _, h3, hs3.out⟩
  case round =>
    obtain ⟨k, hk, hk2, rfl, ⟨d, hd1, hd2, hd3, rfl⟩, s, hr, hs⟩ := hrel
    by_cases hlt : k < l.length ∧ k < 200
    · obtain ⟨hlt, hlt2⟩ := hlt
      obtain ⟨g, o, rfl, c0, c1, c2, c3⟩ := h.get hlt
      obtain ⟨⟨k0, k1⟩, ⟨a0, a1⟩, _⟩ := h.2 _ (List.getElem_mem hlt)
      generalize l[k] = x at *
      obtain ⟨kind, at_, b, kp⟩ := x
      simp only at c0 c1 c2 c3 k0 k1 a0 a1
      have d0 := hr.cell c0
      have hfew := hs.few
      have hlong : s.late.length < 1048576 := by omega
      by_cases hbar : kind.tmod 5 = 1
      · obtain ⟨hs', he⟩ := hs.bar
        have hdd := hs'.dead'
        replace hs' := Lib.hid hs'
        by_cases hkn : k < n
        · have hdd' : (barred s).dead = false := by rw [hdd]; simp; omega
          rw [if_pos hkn] at he
          clear hdd
          go_wp2_with fail
          refine (hr.barrier).mono ?_
          rintro e w4 ⟨rfl, hr4⟩
          rw [he]
          go_wp2_with fail
          refine (hr4.dead).mono ?_
          rintro e w6 ⟨rfl, rfl⟩
          rw [hdd']
          go_wp2
          go_roundw
          case rel => exact ⟨k + 1, by omega, by omega, by go_num, ⟨d + 1, by omega, by omega, fun _ => by omega, by go_num⟩, _, hr4, hs'.out⟩
          case measure => simp [intOf]; omega
        · have hdd' : (barred s).dead = true := by rw [hdd]; simp; omega
          rw [if_neg hkn] at he
          clear hdd
          go_wp2_with fail
          refine (hr.barrier).mono ?_
          rintro e w4 ⟨rfl, hr4⟩
          rw [he]
          go_wp2_with fail
          refine (hr4.dead).mono ?_
          rintro e w6 ⟨rfl, rfl⟩
          rw [hdd']
          go_wp2
          go_roundw
          case rel => exact ⟨k + 1, by omega, by omega, by go_num, ⟨d, by omega, by omega, fun _ => by omega, rfl⟩, _, hr4, hs'.out⟩
          case measure => simp [intOf]; omega
      · obtain ⟨m, hm, hmz⟩ := low_two at_
        obtain ⟨hs', he⟩ := hs.write m hm (rep 256 b) (rep_length _ _)
        have hdd := hs'.dead'
        replace hs' := Lib.hid hs'
        have d1 := hr.cell c1
        have d2 := hr.cell c2
        by_cases hkn : k < n
        · have hdd' : (written s m (rep 256 b)).dead = false := by rw [hdd]; simp; omega
          rw [if_pos hkn] at he
          clear hdd
          go_wp2_with fail
          go_region_held3 (fun w' => w'.cell? ⟨g, o + k * 4 + 1, none⟩ = some (.int .i64 at_) ∧ w'.cell? ⟨g, o + k * 4 + 2, none⟩ = some (.int .u8 (b.toNat : Int)))
            (first
              | exact ⟨d1, d2⟩
              | exact ⟨hr4.cell c1, hr4.cell c2⟩
              | exact ⟨hrb.cell c1, hrb.cell c2⟩)
            (first
              | (go_at_call 20; refine (block_any _ b 256 (by decide)).mono ?_; rintro e wb ⟨rfl, kb⟩; have hrb := hr.only kb.undrew)
              | (go_at_call 24; refine (hrb.write m (rep 256 b) (by omega) (by omega) hlong).mono ?_; rintro e wc ⟨rfl, hr4⟩))
          go_wp2_with fail
          refine (hr4.dead).mono ?_
          rintro e w6 ⟨rfl, rfl⟩
          rw [hdd']
          go_wp2
          go_roundw
          case rel => exact ⟨k + 1, by omega, by omega, by go_num, ⟨d + 1, by omega, by omega, fun _ => by omega, by go_num⟩, _, hr4, hs'.out⟩
          case measure => simp [intOf]; omega
        · have hdd' : (written s m (rep 256 b)).dead = true := by rw [hdd]; simp; omega
          rw [if_neg hkn] at he
          clear hdd
          go_wp2_with fail
          go_region_held3 (fun w' => w'.cell? ⟨g, o + k * 4 + 1, none⟩ = some (.int .i64 at_) ∧ w'.cell? ⟨g, o + k * 4 + 2, none⟩ = some (.int .u8 (b.toNat : Int)))
            (first
              | exact ⟨d1, d2⟩
              | exact ⟨hr4.cell c1, hr4.cell c2⟩
              | exact ⟨hrb.cell c1, hrb.cell c2⟩)
            (first
              | (go_at_call 20; refine (block_any _ b 256 (by decide)).mono ?_; rintro e wb ⟨rfl, kb⟩; have hrb := hr.only kb.undrew)
              | (go_at_call 24; refine (hrb.write m (rep 256 b) (by omega) (by omega) hlong).mono ?_; rintro e wc ⟨rfl, hr4⟩))
          go_wp2_with fail
          refine (hr4.dead).mono ?_
          rintro e w6 ⟨rfl, rfl⟩
          rw [hdd']
          go_wp2
          go_roundw
          case rel => exact ⟨k + 1, by omega, by omega, by go_num, ⟨d, by omega, by omega, fun _ => by omega, rfl⟩, _, hr4, hs'.out⟩
          case measure => simp [intOf]; omega
    · by_cases hge : k < l.length
      · have h200 : k = 200 := by omega
        subst h200
        have hc := hr.crash keep hkeep
        have hend : barErr (crashed s keep) = 0 := by simp [barErr, crashed, burns]
        have hdd : (crashed s keep).dead = false := rfl
        go_wp2_with fail
        refine hc.mono ?_
        rintro e w4 ⟨rfl, hr4⟩
        go_wp2_with fail
        refine (alive_any _).mono ?_
        rintro e w5 ⟨rfl, g5⟩
        have hr5 := hr4.only g5
        go_wp2_with fail
        refine (hr5.dead).mono ?_
        rintro e w6 ⟨rfl, rfl⟩
        rw [hdd]
        go_wp2_with fail
        refine (hr5.barrier).mono ?_
        rintro e w7 ⟨rfl, hr7⟩
        rw [hend]
        go_wp2
        go_ret
        exact ⟨rfl, hr7.acts⟩
      · have hge' : k = l.length := by omega
        subst hge'
        have hc := hr.crash keep hkeep
        have hend : barErr (crashed s keep) = 0 := by simp [barErr, crashed, burns]
        have hdd : (crashed s keep).dead = false := rfl
        go_wp2_with fail
        refine hc.mono ?_
        rintro e w4 ⟨rfl, hr4⟩
        go_wp2_with fail
        refine (alive_any _).mono ?_
        rintro e w5 ⟨rfl, g5⟩
        have hr5 := hr4.only g5
        go_wp2_with fail
        refine (hr5.dead).mono ?_
        rintro e w6 ⟨rfl, rfl⟩
        rw [hdd]
        go_wp2_with fail
        refine (hr5.barrier).mono ?_
        rintro e w7 ⟨rfl, hr7⟩
        rw [hend]
        go_wp2
        go_ret
        exact ⟨rfl, hr7.acts⟩

end Go.Proofs.Ytohkfeolfemcnaa
