/- The document's device: Barrier, Crash. -/
import Derived.Test.YtihoebmfanelkaaRef2
import Derived.Test.YtihoebmfanelkaaSettle
namespace Go.Proofs.Ytihoebmfanelkaa
open Go.RowKit

theorem ownsRow_set {w : World} {e : TypeId} {z g cap n i : Nat} {xs : List Value} (h : w.ownsRow 0 e z (.slice (some ⟨g, 0, none⟩) n cap) n xs) (u : Value) : (w.setCell ⟨g, i, none⟩ u).ownsRow 0 e z (.slice (some ⟨g, 0, none⟩) n cap) n (xs.set i u) := by
  refine ⟨by rw [List.length_set]; exact h.1, ?_⟩
  rcases h.2 with ⟨h0, _⟩ | ⟨g', cap', cur, hv, hb, hg, h1, h2, h3, h4⟩
  · cases h0
  · injection hv with hv1 _ hv3
    injection hv1 with hv1
    injection hv1 with hv1
    subst hv1
    subst hv3
    refine .inr ⟨g, cap, cur.setIfInBounds i u, rfl, hb, Blk.set hg i u, h1, h2, by simpa using h3, ?_⟩
    rw [Array.toList_setIfInBounds, List.take_set, h4]

theorem settle_strs (keep : Nat) (l : List (Nat × List UInt8)) (f : List (List UInt8)) (n : Nat) (x : Nat × List UInt8) (hx : l[n]? = some x) :
    strCells (settle keep (l.take (n + 1)) f) = if keepBit keep n then (strCells (settle keep (l.take n) f)).set x.1 (.string (strOf x.2)) else strCells (settle keep (l.take n) f) := by
  rw [settle_take keep l f n x hx]
  split
  · rw [strCells_set]
  · rfl

theorem strCells_len' (l : List (List UInt8)) : (strCells l).length = l.length := by simp [strCells]
theorem ownsRow_free {w : World} {e : TypeId} {z g cap n : Nat} {xs : List Value} (h : w.ownsRow 0 e z (.slice (some ⟨g, 0, none⟩) n cap) n xs) (i : Nat) : w.frozen? ⟨g, i, none⟩ = false := by
  rcases h.2 with ⟨h0, _⟩ | ⟨g', cap', cur, hv, hb, hg, h1, h2, h3, h4⟩
  · cases h0
  · injection hv with hv1 _ hv3
    injection hv1 with hv1
    injection hv1 with hv1
    subst hv1
    exact Blk.free hg i

set_option maxRecDepth 100000 in
set_option maxHeartbeats 2000000 in
theorem rbarrier_any (w : World) (p : Nat) (G : List Nat) (s : St) (hlate : s.late.length < 1048576) (hd : Ref w p G s) :
    Calls Try.prog 51 #[.pointer (some ⟨p, 0, none⟩)] w fun e w' => e = .returned (.int .i64 (barErr s)) ∧ RefSame w w' p G (barred s) := by
  cases hb : burns s with
  | false =>
    have herr : barErr s = 5 := by simp [barErr, hb]
    have hst : barred s = burnt s := by unfold barred; rw [if_pos hb]
    rw [herr, hst]
    clear herr hst
    go_enter Try.func51, Try.ntmps51
    go_wp2_with fail
    refine (burn_any w p G s hd).mono ?_
    rintro e w1 ⟨rfl, h1⟩
    rw [hb]
    replace h1 := Lib.hid h1
    go_wp2
    go_ret
    exact ⟨rfl, h1.out⟩
  | true =>
    have herr : barErr s = 0 := by simp [barErr, hb]
    have hst : barred s = settledAll (burnt s) 18446744073709551615 := by unfold barred; rw [if_neg (by rw [hb]; decide)]
    obtain ⟨t, ht⟩ : ∃ t, t = burnt s := ⟨_, rfl⟩
    have hl1 : t.late.length < 1048576 := by rw [ht, burnt_late]; exact hlate
    rw [herr, hst, ← ht]
    clear herr hst
    have hburn := burn_any w p G s hd
    rw [hb, ← ht] at hburn
    clear ht hd hlate
    obtain ⟨firm, late, fuse, dead⟩ := t
    simp only at hl1
    go_enter Try.func51, Try.ntmps51
    go_wp2_with fail
    refine hburn.mono ?_
    rintro e w1 ⟨rfl, h1⟩
    clear hburn
    obtain ⟨h1, k1⟩ := h1
    have fine := h1.fine
    obtain ⟨vf, vl, b2, of2, ol2, ⟨n1, n2, n3⟩, ⟨g1, g2, g3⟩, _⟩ := h1
    simp only at b2 of2 ol2
    have hpos := fine.pos
    have hfew := fine.few
    simp only at hpos hfew
    obtain ⟨gf, cf, rfl, _, _⟩ := of2.form (by omega)
    obtain ⟨A, cl, rfl⟩ : ∃ A c, vl = .slice A late.length c := by
      rcases ol2.2 with ⟨rfl, h0⟩ | ⟨g, cap, cur, rfl, _⟩
      · exact ⟨_, _, by rw [h0]⟩
      · exact ⟨_, _, rfl⟩
    simp only [Value.ownBlock] at n1
    go_wp2_with fail
    go_loopw [3] (fun i wr => ∃ n : Nat, n ≤ late.length ∧ i = .int .i64 n ∧ Blk wr p 44 #[.slice (some ⟨gf, 0, none⟩) firm.length cf, .slice A late.length cl, .int .i64 fuse, .bool dead] ∧ wr.ownsRow 0 9 1 (.slice (some ⟨gf, 0, none⟩) firm.length cf) firm.length (strCells (settle 18446744073709551615 (late.take n) firm)) ∧ Only [gf] w1 wr) (fun i _ => late.length - (intOf i).toNat)
    case atStart => exact ⟨0, Nat.zero_le _, rfl, b2, by simpa [settle_nil] using of2, Only.refl _ _⟩
    case round =>
      obtain ⟨n, hn, rfl, b3, of3, k3⟩ := hrel
      have c0 := b3.cell 0
      have c1 := b3.cell 1
      simp only [List.getElem?_toArray, List.getElem?_cons_zero, List.getElem?_cons_succ] at c0 c1
      by_cases hlt : n < late.length
      · have hx : late[n]? = some late[n] := List.getElem?_eq_getElem hlt
        obtain ⟨r1, r2⟩ := refLate_at late n _ hx
        have ol3 := ownsRow_kept' ol2 k3 (fun g hg => by simp; rintro rfl; exact n3 _ rfl hg)
        obtain ⟨g, c, hv, _, _⟩ := ol3.form (by omega)
        rw [hv] at ol3 c1
        have q0 := ol3.cells rfl _ _ r1
        have q1 := ol3.cells rfl _ _ r2
        rw [addr_add, Nat.zero_add] at q0 q1
        have hstep := Lib.hid (settle_strs 18446744073709551615 late firm n _ hx)
        have hkb := keep_all n
        have hfx : late[n].1 < firm.length := (fine.late _ (List.mem_of_getElem? hx)).1
        generalize late[n] = x at *
        clear r1 r2
        have hstep := hstep.out
        rw [if_pos hkb] at hstep
        replace hstep := Lib.hid hstep
        clear ol3
        go_wp2_with fail
        go_still_tail 21, (by kernel_rfl)
        have kd : Only [] wr wr.drew := (Only.refl [] wr).drew
        change wpList _ _ _ _ _ wr.drew
        have of4 := ownsRow_kept' of3 kd (by simp)
        have b4 := b3.kept kd (by simp)
        have k4 := k3.drew
        generalize wr.drew = wd at *
        have e3 : ∃ u, wd.cell? ⟨gf, x.1, none⟩ = some u := by
          have hl : x.1 < (strCells (settle 18446744073709551615 (late.take n) firm)).length := by rw [strCells_len', settle_length]; exact hfx
          refine ⟨(strCells (settle 18446744073709551615 (late.take n) firm))[x.1], ?_⟩
          have := of4.cells rfl x.1 _ (List.getElem?_eq_getElem hl)
          rwa [addr_add, Nat.zero_add] at this
        obtain ⟨u, e3⟩ := e3
        have e4 := ownsRow_free of4 x.1
        have of5 := ownsRow_set (i := x.1) of4 (.string (strOf x.2))
        have kset : Only [gf] wd (wd.setCell ⟨gf, x.1, none⟩ (.string (strOf x.2))) := Only.set wd [gf] (by simp) _
        have b5 := b4.kept kset (by simpa using fun e => n1 (by rw [← e]))
        have k5 := k4.then kset (by simp)
        have hst := hstep.out
        rw [← hst] at of5
        replace of5 := Lib.hid of5
        replace b5 := Lib.hid b5
        replace k5 := Lib.hid k5
        clear of3 of4 b3 b4 k3 k4 kd kset hst
        go_wp2
        go_roundw
        case rel => exact ⟨n + 1, by omega, by go_num, b5.out, of5.out, k5.out⟩
        case measure => simp [intOf]; omega
      · have hnl : n = late.length := by omega
        subst hnl
        rw [List.take_of_length_le (Nat.le_refl _)] at of3
        have f1 := b3.free 1
        have kp : Only [p] wr (wr.setCell ⟨p, 1, none⟩ (.slice none 0 0)) := Only.set wr [p] (by simp) _
        have hend : RefSame w (wr.setCell ⟨p, 1, none⟩ (.slice none 0 0)) p G (settledAll ⟨firm, late, fuse, dead⟩ 18446744073709551615) := by
          have hset := b3.set 1 (.slice none 0 0)
          simp only [List.setIfInBounds_toArray, List.set_cons_zero, List.set_cons_succ] at hset
          refine ⟨⟨.slice (some ⟨gf, 0, none⟩) firm.length cf, .slice none 0 0, hset, ?_, World.ownsRow_nil _ 0 _ 2, ⟨by simpa [Value.ownBlock] using n1, by simp [Value.ownBlock], by simp [Value.ownBlock]⟩, ⟨g1, g2, by simp [Value.ownBlock]⟩, fine.settled _⟩, ?_⟩
          · have := ownsRow_kept' of3 kp (by simpa [Value.ownBlock] using n1)
            simpa only [settledAll, settle_length] using this
          · have h3 := k1.then (k3.more (T := G) (fun i hi => .inl (by simp at hi; subst hi; exact g2 _ rfl))) (fun i hi => .inl hi)
            exact h3.then kp (by simp; exact .inl g1)
        replace hend := Lib.hid hend
        clear b3 of3 k3 kp b2 of2 ol2
        go_wp2
        go_ret
        exact ⟨rfl, hend.out⟩

theorem keep_bit2 (keep n : Nat) : (((keep : Int) / 2 ^ (n % 64)).tmod 2 == 1) = keepBit keep n := by
  have e1 : ((keep : Int) / 2 ^ (n % 64)) = ((keep / 2 ^ (n % 64) : Nat) : Int) := by simp
  unfold keepBit
  rw [e1]
  generalize keep / 2 ^ (n % 64) = q at *
  rw [Int.tmod_eq_emod_of_nonneg (by omega)]
  have e2 : (q : Int) % 2 = ((q % 2 : Nat) : Int) := by omega
  rw [e2]
  have : q % 2 = 0 ∨ q % 2 = 1 := by omega
  rcases this with h | h <;> rw [h] <;> rfl

set_option maxRecDepth 100000 in
set_option maxHeartbeats 2000000 in
theorem rcrash_any (w : World) (p : Nat) (G : List Nat) (s : St) (keep : Nat) (hlate : s.late.length < 1048576) (hd : Ref w p G s) :
    Calls Try.prog 31 #[.pointer (some ⟨p, 0, none⟩), .int .u64 (keep : Int)] w fun e w' => e = .returned (.tuple #[]) ∧ RefSame w w' p G (crashed s keep) := by
  obtain ⟨firm, late, fuse, dead⟩ := s
  simp only at hlate
  have fine := hd.fine
  obtain ⟨vf, vl, b2, of2, ol2, ⟨n1, n2, n3⟩, ⟨g1, g2, g3⟩, _⟩ := hd
  simp only at b2 of2 ol2
  have hpos := fine.pos
  have hfew := fine.few
  simp only at hpos hfew
  obtain ⟨gf, cf, rfl, _, _⟩ := of2.form (by omega)
  obtain ⟨A, cl, rfl⟩ : ∃ A c, vl = .slice A late.length c := by
    rcases ol2.2 with ⟨rfl, h0⟩ | ⟨g, cap, cur, rfl, _⟩
    · exact ⟨_, _, by rw [h0]⟩
    · exact ⟨_, _, rfl⟩
  simp only [Value.ownBlock] at n1
  go_enter Try.func31, Try.ntmps31
  go_wp2_with fail
  go_loopw [4] (fun i wr => ∃ n : Nat, n ≤ late.length ∧ i = .int .i64 n ∧ Blk wr p 44 #[.slice (some ⟨gf, 0, none⟩) firm.length cf, .slice A late.length cl, .int .i64 fuse, .bool dead] ∧ wr.ownsRow 0 9 1 (.slice (some ⟨gf, 0, none⟩) firm.length cf) firm.length (strCells (settle keep (late.take n) firm)) ∧ Only [gf] w wr) (fun i _ => late.length - (intOf i).toNat)
  case atStart => exact ⟨0, Nat.zero_le _, rfl, b2, by simpa [settle_nil] using of2, Only.refl _ _⟩
  case round =>
    obtain ⟨n, hn, rfl, b3, of3, k3⟩ := hrel
    have c0 := b3.cell 0
    have c1 := b3.cell 1
    simp only [List.getElem?_toArray, List.getElem?_cons_zero, List.getElem?_cons_succ] at c0 c1
    by_cases hlt : n < late.length
    · have hx : late[n]? = some late[n] := List.getElem?_eq_getElem hlt
      obtain ⟨r1, r2⟩ := refLate_at late n _ hx
      have ol3 := ownsRow_kept' ol2 k3 (fun g hg => by simp; rintro rfl; exact n3 _ rfl hg)
      obtain ⟨g, c, hv, _, _⟩ := ol3.form (by omega)
      rw [hv] at ol3 c1
      have q0 := ol3.cells rfl _ _ r1
      have q1 := ol3.cells rfl _ _ r2
      rw [addr_add, Nat.zero_add] at q0 q1
      have hstep := Lib.hid (settle_strs keep late firm n _ hx)
      have hfx : late[n].1 < firm.length := (fine.late _ (List.mem_of_getElem? hx)).1
      generalize late[n] = x at *
      clear r1 r2 ol3
      have hbit := keep_bit2 keep n
      cases hkb : keepBit keep n with
      | true =>
        rw [hkb] at hbit
        have hstep := hstep.out
        rw [if_pos hkb] at hstep
        replace hstep := Lib.hid hstep
        go_wp2_with fail
        go_still_tail 21, (by kernel_rfl)
        have kd : Only [] wr wr.drew := (Only.refl [] wr).drew
        change wpList _ _ _ _ _ wr.drew
        have of4 := ownsRow_kept' of3 kd (by simp)
        have b4 := b3.kept kd (by simp)
        have k4 := k3.drew
        generalize wr.drew = wd at *
        have e3 : ∃ u, wd.cell? ⟨gf, x.1, none⟩ = some u := by
          have hl : x.1 < (strCells (settle keep (late.take n) firm)).length := by rw [strCells_len', settle_length]; exact hfx
          refine ⟨(strCells (settle keep (late.take n) firm))[x.1], ?_⟩
          have := of4.cells rfl x.1 _ (List.getElem?_eq_getElem hl)
          rwa [addr_add, Nat.zero_add] at this
        obtain ⟨u, e3⟩ := e3
        have e4 := ownsRow_free of4 x.1
        have of5 := ownsRow_set (i := x.1) of4 (.string (strOf x.2))
        have kset : Only [gf] wd (wd.setCell ⟨gf, x.1, none⟩ (.string (strOf x.2))) := Only.set wd [gf] (by simp) _
        have b5 := b4.kept kset (by simpa using fun e => n1 (by rw [← e]))
        have k5 := k4.then kset (by simp)
        have hst := hstep.out
        rw [← hst] at of5
        replace of5 := Lib.hid of5
        replace b5 := Lib.hid b5
        replace k5 := Lib.hid k5
        clear of3 of4 b3 b4 k3 k4 kd kset hst
        go_wp2
        go_roundw
        case rel => exact ⟨n + 1, by omega, by go_num, b5.out, of5.out, k5.out⟩
        case measure => simp [intOf]; omega
      | false =>
        rw [hkb] at hbit
        have hstep := hstep.out
        rw [if_neg (by rw [hkb]; decide)] at hstep
        rw [← hstep] at of3
        replace of3 := Lib.hid of3
        replace b3 := Lib.hid b3
        clear hstep
        go_wp2
        go_roundw
        case rel => exact ⟨n + 1, by omega, by go_num, b3.out, of3.out, k3⟩
        case measure => simp [intOf]; omega
    · have hnl : n = late.length := by omega
      subst hnl
      rw [List.take_of_length_le (Nat.le_refl _)] at of3
      have f1 := b3.free 1
      have k4 : Only [p] wr (wr.setCell ⟨p, 1, none⟩ (.slice none 0 0)) := Only.set wr [p] (by simp) _
      have hset := b3.set 1 (.slice none 0 0)
      simp only [List.setIfInBounds_toArray, List.set_cons_zero, List.set_cons_succ] at hset
      have hr1 : RefSame w (wr.setCell ⟨p, 1, none⟩ (.slice none 0 0)) p G (settledAll ⟨firm, late, fuse, dead⟩ keep) := by
        refine ⟨⟨.slice (some ⟨gf, 0, none⟩) firm.length cf, .slice none 0 0, hset, ?_, World.ownsRow_nil _ 0 _ 2, ⟨by simpa [Value.ownBlock] using n1, by simp [Value.ownBlock], by simp [Value.ownBlock]⟩, ⟨g1, g2, by simp [Value.ownBlock]⟩, fine.settled _⟩, ?_⟩
        · have := ownsRow_kept' of3 k4 (by simpa [Value.ownBlock] using n1)
          simpa only [settledAll, settle_length] using this
        · have h3 := k3.more (T := G) (fun i hi => .inl (by simp at hi; subst hi; exact g2 _ rfl))
          exact h3.then k4 (by simp; exact .inl g1)
      have hr2 := hr1.1.setFuse (-1) (by decide) (by decide)
      have hr3 := hr2.1.setDead false
      have d2 := Blk.cell hset 2
      have d3 := Blk.cell hset 3
      have e2 := Blk.free hset 2
      have e3 := Blk.free hset 3
      simp only [List.getElem?_toArray, List.getElem?_cons_zero, List.getElem?_cons_succ] at d2 d3
      have hend : RefSame w (((wr.setCell ⟨p, 1, none⟩ (.slice none 0 0)).setCell ⟨p, 2, none⟩ (.int .i64 (-1))).setCell ⟨p, 3, none⟩ (.bool false)) p G (crashed ⟨firm, late, fuse, dead⟩ keep) := ⟨hr3.1, (hr1.2.trans hr2.2).trans hr3.2⟩
      replace hend := Lib.hid hend
      have c2 := b3.cell 2
      have c3 := b3.cell 3
      have f2 := b3.free 2
      have f3 := b3.free 3
      simp only [List.getElem?_toArray, List.getElem?_cons_zero, List.getElem?_cons_succ] at c2 c3
      clear b3 of3 k3 k4 b2 of2 ol2 hr1 hr2 hr3 hset
      go_wp2
      go_end0
      exact ⟨rfl, hend.out⟩

end Go.Proofs.Ytihoebmfanelkaa
