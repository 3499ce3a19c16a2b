/- The document's log: Commit. -/
import Derived.Test.YthpjkhmkjhgbkaaGreatDoorRlog4
namespace Go.Proofs.YthpjkhmkjhgbkaaGreatDoor
open Go.RowKit

/-- The document's log and its device: behind a call. -/
def RActed (w w' : World) (lp p : Nat) (G : List Nat) (s : St) (n : Nat) (f : Bool) : Prop :=
  ∃ G', Ref w' p G' s ∧ RLogB w' lp p n f ∧ Only (lp :: G) w w' ∧ ∀ j ∈ G', (j ∈ G ∨ w.heap.size ≤ j) ∧ j < w'.heap.size

theorem ract_set {w w0 w' : World} {lp p n m i : Nat} {f : Bool} {v : Value} {G : List Nat} {s : St} (k : Only [] w w0) (hd : RefDid w0 w' p G s) (hlog : RLogB w0 lp p n false) (hlp : lp ∉ G) (hlpw : lp < w.heap.size)
    (hv : ∀ w1, RLogB w1 lp p n false → RLogB (w1.setCell ⟨lp, i, none⟩ v) lp p m f) :
    RActed w (w'.setCell ⟨lp, i, none⟩ v) lp p G s m f := by
  obtain ⟨F1, h1, h2, h3⟩ := hd
  have hl1 : RLogB w' lp p n false := Blk.kept hlog h2 hlp
  have hlF : lp ∉ F1 := fun hm => by
    rcases (h3 lp hm).1 with h | h
    · exact hlp h
    · have := k.size; omega
  have ks : Only [lp] w' (w'.setCell ⟨lp, i, none⟩ v) := Only.set w' [lp] (by simp) _
  refine ⟨F1, h1.kept ks (by intro i hi; simp; rintro rfl; exact hlF hi), hv _ hl1, ?_, fun j hj => ⟨?_, by have := (h3 j hj).2; simpa [World.setCell] using this⟩⟩
  · exact ((k.more (T := lp :: G) (by simp)).then h2 (fun i hi => .inl (by simp [hi]))).then ks (by simp)
  · rcases (h3 j hj).1 with h | h
    · exact .inl h
    · have := k.size; exact .inr (by omega)
theorem rlog_dead {lp p n : Nat} (w1 : World) (h : RLogB w1 lp p n false) : RLogB (w1.setCell ⟨lp, 2, none⟩ (.bool true)) lp p n true := by
  have := Blk.set h 2 (.bool true)
  simpa [RLogB] using this
theorem rlog_next {lp p n : Nat} {x : Int} (hx : x = ((n + 1 : Nat) : Int)) (w1 : World) (h : RLogB w1 lp p n false) : RLogB (w1.setCell ⟨lp, 1, none⟩ (.int .u32 x)) lp p (n + 1) false := by
  have := Blk.set h 1 (.int .u32 x)
  rw [hx] at this
  simpa [RLogB, hx] using this
theorem ract_same {w w' : World} {lp p n : Nat} {f : Bool} {G : List Nat} {s : St} (hd : Ref w p G s) (hlog : RLogB w lp p n f) (hG : ∀ i ∈ G, i < w.heap.size) (k : Only [] w w') : RActed w w' lp p G s n f :=
  ⟨G, hd.kept k (by simp), Blk.kept hlog k (by simp), k.more (by simp), fun j hj => ⟨.inl hj, Nat.lt_of_lt_of_le (hG j hj) k.size⟩⟩
theorem RActed.mono {w w' : World} {lp p n : Nat} {f : Bool} {F G : List Nat} {s : St} (h : RActed w w' lp p F s n f) (hG : ∀ i ∈ F, i ∈ G) : RActed w w' lp p G s n f := by
  obtain ⟨F', h1, h2, h3, h4⟩ := h
  exact ⟨F', h1, h2, h3.more (fun i hi => .inl (by rcases List.mem_cons.1 hi with rfl | hi; simp; simp [hG i hi])), fun j hj => ⟨(h4 j hj).1.imp (hG j) id, (h4 j hj).2⟩⟩

theorem commitW_err {s : St} {n : Nat} {l : List Bk} (hr : RightL l ((s.firm.length : Int) - 41)) : (commitW s n l).1 = 0 ∨ (commitW s n l).1 = 5 := by
  have h1 := settleW_err (copiesOf (homesOf (n + 1) l)) s (there_copies hr)
  have f1 := settleW_firm_len (copiesOf (homesOf (n + 1) l)) s
  have hN := right_size hr
  have h2 := settleW_err [⟨0, markL (n + 1) l.length⟩] (settleW s (copiesOf (homesOf (n + 1) l))).2 (by
    intro x hx
    obtain rfl := List.mem_singleton.1 hx
    exact ⟨by simp only [hasBlock, decide_eq_true_eq]; omega, markL_length _ _⟩)
  have f2 := settleW_firm_len [⟨0, markL (n + 1) l.length⟩] (settleW s (copiesOf (homesOf (n + 1) l))).2
  have h3 := settleW_err (homesOf (n + 1) l) (settleW (settleW s (copiesOf (homesOf (n + 1) l))).2 [⟨0, markL (n + 1) l.length⟩]).2 (by rw [f2, f1]; exact there_homes hr)
  unfold commitW
  split
  · exact h1
  · split
    · exact h2
    · exact h3

set_option maxRecDepth 100000 in
set_option maxHeartbeats 4000000 in
theorem rcommit_any (w : World) (lp p n : Nat) (f : Bool) (G : List Nat) (s : St) (A : Option Addr) (c : Nat) (l : List Bk) (hn : n < 4294967296) (h : RLogB w lp p n f) (hd : Ref w p G s) (hlp : lp ∉ G) (hb : Blks w A l) (hA : l ≠ [] → ∀ a, A = some a → a.block ∉ G) (hl : l.length ≤ 9223372036854775807) (hN : 42 ≤ s.firm.length) (hlate : s.late.length + 200 ≤ 1048576) :
    Calls Tryz.prog 63 #[.pointer (some ⟨lp, 0, none⟩), .slice A l.length c] w fun e w' => ∃ x s' n' f', e = .returned (.int .i64 x) ∧ CommitsTo s n f l x s' n' f' ∧ RActed w w' lp p G s' n' f' := by
  obtain ⟨G0, hd0, hsub, hG0⟩ := hd.trim
  refine Calls.mono (R := fun e w' => ∃ x s' n' f', e = .returned (.int .i64 x) ∧ CommitsTo s n f l x s' n' f' ∧ RActed w w' lp p G0 s' n' f') ?_ (fun e w' ⟨x, s', n', f', h1, h2, h3⟩ => ⟨x, s', n', f', h1, h2, h3.mono hsub⟩)
  have hlp0 : lp ∉ G0 := fun hm => hlp (hsub _ hm)
  have hA0 : l ≠ [] → ∀ a, A = some a → a.block ∉ G0 := fun hne a ha hm => hA hne a ha (hsub _ hm)
  clear hd hlp hA hsub G
  rename List Nat => G
  rename Ref w p G s => hd
  have hlpw := Blk.lt h
  obtain ⟨l0, l1, l2⟩ := h.cells
  obtain ⟨gf, cf, B, cl, c0, _, _, _, _⟩ := hd.cells (by omega)
  have hfew := hd.fine.few
  have hright := right_any w A c l ((s.firm.length : Int) - 41) hb hl
  have hsame := fun (w' : World) (k : Only [] w w') => ract_same hd h hG0 k
  have hsteps := fun (W : World) (k : Only [] w W) (hf : f = false) (hn : n + 1 < 4294967296) (hr : RightL l ((s.firm.length : Int) - 41)) => rsteps_any W lp p n G s A c l hn (by rw [← hf]; exact Blk.kept h k (by simp)) (hd.kept k (by simp)) hlp0 (hb.kept k (by simp)) (hA0 (fun h => by have := hr.1; simp [h] at this)) hr hlate
  obtain ⟨z, hz⟩ : ∃ z : Int, z = (n : Int) := ⟨_, rfl⟩
  rw [← hz] at l1
  obtain ⟨N, hNN⟩ : ∃ N : Int, N = (s.firm.length : Int) - 41 := ⟨_, rfl⟩
  have hcom := fun (x : Int) (s' : St) (n' : Nat) (f' : Bool) (hh : (x ≠ 0 ∧ Refusal N f n l x ∧ s' = s ∧ n' = n ∧ f' = f) ∨ (Refusal N f n l 0 ∧ x = (commitW s n l).1 ∧ s' = (commitW s n l).2 ∧ ((x = 0 ∧ n' = n + 1 ∧ f' = false) ∨ (x = 5 ∧ n' = n ∧ f' = true)))) => (show CommitsTo s n f l x s' n' f' by unfold CommitsTo; rw [← hNN]; exact hh)
  have hcw := fun (hr : RightL l ((s.firm.length : Int) - 41)) => commitW_err (n := n) hr
  have hq1 : Hid (z = 4294967295 → n = 4294967295) := show z = 4294967295 → n = 4294967295 by omega
  have hq2 : Hid (z ≠ 4294967295 → n ≠ 4294967295) := show z ≠ 4294967295 → n ≠ 4294967295 by omega
  have hq3 : Hid (z ≠ 4294967295 → n + 1 < 4294967296) := show z ≠ 4294967295 → n + 1 < 4294967296 by omega
  have hq4 : Hid (z + 1 = ((n + 1 : Nat) : Int)) := show z + 1 = ((n + 1 : Nat) : Int) by omega
  have hz0 : 0 ≤ z := by omega
  have hz3 : z ≤ 4294967295 := by omega
  have hq5 : Hid (z ≠ 4294967295 → IntKind.u32.wrap (z + 1) = z + 1) := fun h => by
    have h2 : z < 4294967295 := by omega
    clear hright hsame hsteps hcom hcw hq1 hq2 hq3 hq4 h hfew hN hlate hl hNN hz hn
    rw [IntKind.wrap_u32]
    omega
  have hwN : wrap64 ((s.firm.length : Int) - 41) = (s.firm.length : Int) - 41 := by
    clear hright hsame hsteps hcom hcw hq1 hq2 hq3 hq4 hq5 hz0 hz3 hl hlate hn hz
    simp only [wrap64]
    omega
  clear hz0 hz3
  rw [← hNN] at hsteps hcw
  have hf0 : ((s.firm.length : Nat) : Int) - 41 = N := hNN.symm
  replace hn := Lib.hid hn
  replace hNN := Lib.hid hNN
  replace hf0 := Lib.hid hf0
  replace hz := Lib.hid hz
  replace hright := Lib.hid hright
  replace hsame := Lib.hid hsame
  replace hsteps := Lib.hid hsteps
  replace hcom := Lib.hid hcom
  replace hcw := Lib.hid hcw
  replace hlog := Lib.hid h
  clear h hd hb hA0 hG0 hfew hN hlate hl
  go_enter Tryz.func63, Tryz.ntmps63
  go_wp2_with fail
  refine hright.out.mono ?_
  rintro e w1 ⟨⟨r, rfl, hr⟩, k1⟩
  rw [hf0.out] at hr
  clear hright hwN
  have d1 := k1.cell l1 (by simp)
  have d2 := k1.cell l2 (by simp)
  clear l0 l1 l2 c0
  cases r with
  | false =>
    have hno : ¬ RightL l N := fun h => Bool.noConfusion (hr.2 h)
    replace hcom := Lib.hid (hcom.out 1 s n f (.inl ⟨by decide, .inl ⟨hno, rfl⟩, rfl, rfl, rfl⟩))
    clear hr hno
    go_wp2
    go_ret
    exact ⟨1, s, n, f, rfl, hcom.out, hsame.out _ k1⟩
  | true =>
    have hyes : Hid (RightL l N) := hr.1 rfl
    clear hr
    cases hf : f with
    | true =>
      rw [hf] at d2 hsame
      replace hcom := Lib.hid (hcom.out 5 s n true (.inl ⟨by decide, .inr (.inl ⟨hyes.out, hf, rfl⟩), rfl, rfl, hf.symm⟩))
      go_wp2
      go_ret
      exact ⟨5, s, n, true, rfl, hcom.out, hsame.out _ k1⟩
    | false =>
      rw [hf] at d2 hsame hlog
      by_cases hm : z = 4294967295
      · replace hcom := Lib.hid (hcom.out 16 s n false (.inl ⟨by decide, .inr (.inr (.inl ⟨hyes.out, hf, hq1.out hm, rfl⟩)), rfl, rfl, hf.symm⟩))
        rw [hm] at d1
        clear hm
        go_wp2
        go_ret
        exact ⟨16, s, n, false, rfl, hcom.out, hsame.out _ k1⟩
      · have hn1 : Hid (n + 1 < 4294967296) := hq3.out hm
        have hst := Lib.hid (hsteps.out w1 k1 hf hn1.out hyes.out)
        have hzz : IntKind.u32.wrap (z + 1) = z + 1 := hq5.out hm
        have hz2 : Hid (z + 1 = ((n + 1 : Nat) : Int)) := hq4.out
        have href : Hid (Refusal N f n l 0) := .inr (.inr (.inr ⟨hyes.out, hf, hq2.out hm, rfl⟩))
        have hlog1 : Hid (RLogB w1 lp p n false) := Blk.kept hlog.out k1 (by simp)
        go_wp2_with fail
        refine hst.out.mono ?_
        rintro e w2 ⟨rfl, hdid⟩
        have hlog2 : RLogB w2 lp p n false := by
          obtain ⟨_, _, kE, _⟩ := hdid
          exact Blk.kept hlog1.out kE hlp0
        have fr1 := Blk.free hlog2 1
        have fr2 := Blk.free hlog2 2
        obtain ⟨_, e1, e2⟩ := hlog2.cells
        have hze : ((n : Nat) : Int) = z := hz.out.symm
        rw [hze] at e1
        replace hze := Lib.hid hze
        clear d1 d2
        by_cases hx : (commitW s n l).1 = 0
        · have hdd : decide ((commitW s n l).1 = 0) = true := by simp [hx]
          rw [hdd]
          replace hcom := Lib.hid (hcom.out 0 (commitW s n l).2 (n + 1) false (.inr ⟨href.out, hx.symm, rfl, .inl ⟨rfl, rfl, rfl⟩⟩))
          have hend := Lib.hid (ract_set k1 hdid hlog1.out hlp0 hlpw (rlog_next hz2.out))
          clear hdid hlog2 hdd hx
          go_wp2
          go_ret
          exact ⟨0, (commitW s n l).2, n + 1, false, rfl, hcom.out, hend.out⟩
        · have hdd : decide ((commitW s n l).1 = 0) = false := by simp [hx]
          have hx5 : (commitW s n l).1 = 5 := (hcw.out hyes.out).resolve_left hx
          rw [hdd]
          replace hcom := Lib.hid (hcom.out 5 (commitW s n l).2 n true (.inr ⟨href.out, hx5.symm, rfl, .inr ⟨rfl, rfl, rfl⟩⟩))
          have hend := Lib.hid (ract_set k1 hdid hlog1.out hlp0 hlpw rlog_dead)
          clear hdid hlog2 hdd hx hx5
          go_wp2
          go_ret
          exact ⟨5, (commitW s n l).2, n, true, rfl, hcom.out, hend.out⟩

end Go.Proofs.YthpjkhmkjhgbkaaGreatDoor
