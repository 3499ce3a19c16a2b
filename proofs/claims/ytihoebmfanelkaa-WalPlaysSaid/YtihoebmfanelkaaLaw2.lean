/- A new device's log; alive. -/
import Derived.Test.YtihoebmfanelkaaLaw1
namespace Go.Proofs.Ytihoebmfanelkaa
open Go.RowKit

theorem fresh_blk (N k : Nat) (hk : k < N) : blkB (fresh N) k = rep 256 0 := by
  unfold blkB
  show nowOf ((List.replicate N (rep 256 0)).getD k []) [] k = _
  rw [nowOf_nil, List.getD_eq_getElem?_getD, List.getElem?_replicate, if_pos hk]
  rfl
theorem mark_zero : markN (rep 256 0) = 0 ∧ markK (rep 256 0) = 0 := by decide +kernel
theorem fresh_live (N : Nat) : Live (fresh N) := ⟨rfl, by show (-1 : Int) < 0; decide⟩
theorem redoL_zero (s : St) (n : Nat) : redoL s n 0 = [] := by
  unfold redoL
  split <;> rfl
theorem open_fresh (N : Nat) (hN : 42 ≤ N) : openErr (fresh N) = 0 ∧ openSt (fresh N) = fresh N ∧ openN (fresh N) = 0 := by
  have hl : openL (fresh N) = [] := by
    unfold openL
    rw [fresh_blk N 0 (by omega), mark_zero.2]
    exact redoL_zero _ _
  have hA : ¬ (fresh N).firm.length ≤ 41 := by rw [fresh_firm]; omega
  have hd : ¬ (fresh N).dead = true := by show ¬ false = true; decide
  exact ⟨by rw [openErr, if_neg hA, if_neg hd, if_pos hl], by rw [openSt, if_neg hA, if_neg hd, if_pos hl], by rw [openN, fresh_blk N 0 (by omega)]; exact mark_zero.1⟩

theorem commits_live {s s' : St} {n n' : Nat} {l : List Bk} {x : Int} {f' : Bool} (h : Live s) (hr : RightL l ((s.firm.length : Int) - 41)) (hn : n ≠ 4294967295) (hc : CommitsTo s n false l x s' n' f') : x = 0 ∧ s' = (commitW s n l).2 ∧ n' = n + 1 ∧ f' = false := by
  have h0 := (commitW_live (n := n) h hr).1
  rcases hc with ⟨hx, hR, _⟩ | ⟨_, hx, hs, hrest⟩
  · exfalso
    rcases hR with ⟨h1, _⟩ | ⟨_, h1, _⟩ | ⟨_, _, h1, _⟩ | ⟨_, _, _, h1⟩
    · exact h1 hr
    · cases h1
    · exact hn h1
    · exact hx h1
  · rw [h0] at hx
    rcases hrest with ⟨_, h1, h2⟩ | ⟨h1, _⟩
    · exact ⟨hx, hs, h1, h2⟩
    · omega

theorem away {F F' : List Nat} {w : World} {g : Nat} (hF : ∀ j ∈ F', j ∈ F ∨ w.heap.size ≤ j) (hg : g ∉ F) (hlt : g < w.heap.size) : g ∉ F' := fun h => by
  rcases hF g h with h | h
  · exact hg h
  · omega

/-- A device and its log of the call's own. -/
structure Own (w w' : World) (F : List Nat) (lp p : Nat) (s : St) (n : Nat) (f : Bool) : Prop where
  dev : Dev w' p F s
  log : LogB w' lp p n f
  out : lp ∉ F
  old : w.heap.size ≤ lp
  only : Only [] w w'
  new : ∀ j ∈ F, w.heap.size ≤ j ∧ j < w'.heap.size

section
variable {w w1 w2 : World} {F : List Nat} {lp p n : Nat} {s : St} {f : Bool}
theorem Own.lt (h : Own w w1 F lp p s n f) : lp < w1.heap.size := Blk.lt h.log
theorem Own.keep (h : Own w w1 F lp p s n f) (k : Only [] w1 w2) : Own w w2 F lp p s n f :=
  ⟨h.dev.kept k (by simp), Blk.kept h.log k (by simp), h.out, h.old, h.only.trans k, fun j hj => ⟨(h.new j hj).1, Nat.lt_of_lt_of_le (h.new j hj).2 k.size⟩⟩
/-- Beside what another log did. -/
theorem Own.beside {S : List Nat} (h : Own w w1 F lp p s n f) (k : Only S w1 w2) (hw : Only [] w w2) (hS : ∀ i ∈ S, i ∉ lp :: F) : Own w w2 F lp p s n f :=
  ⟨h.dev.kept k (fun i hi hm => hS i hm (by simp [hi])), Blk.kept h.log k (fun hm => hS lp hm (by simp)), h.out, h.old, hw, fun j hj => ⟨(h.new j hj).1, Nat.lt_of_lt_of_le (h.new j hj).2 k.size⟩⟩
theorem Own.acted {s' : St} {n' : Nat} {f' : Bool} (h : Own w w1 F lp p s n f) (k : Acted w1 w2 lp p F s' n' f') : ∃ F', Own w w2 F' lp p s' n' f' ∧ Only (lp :: F) w1 w2 ∧ ∀ j ∈ F', j ∈ F ∨ w1.heap.size ≤ j := by
  obtain ⟨F', h1, h2, h3, h4⟩ := k
  refine ⟨F', ⟨h1, h2, away (fun j hj => (h4 j hj).1) h.out h.lt, h.old, h.only.then h3 (fun i hi => ?_), fun j hj => ⟨?_, (h4 j hj).2⟩⟩, h3, fun j hj => (h4 j hj).1⟩
  · rcases List.mem_cons.1 hi with rfl | hi
    · exact .inr h.old
    · exact .inr (h.new i hi).1
  · rcases (h4 j hj).1 with h' | h'
    · exact (h.new j h').1
    · have := h.only.size; omega
theorem Own.commit (h : Own w w1 F lp p s n f) (A : Option Addr) (c : Nat) (l : List Bk) (hn : n < 4294967296) (hb : Blks w1 A l) (hl : l.length ≤ 9223372036854775807) (hc : l.length ≤ c) (hlate : s.late.length + 200 ≤ 1048576) :
    Calls Try.prog 20 #[.pointer (some ⟨lp, 0, none⟩), .slice A l.length c] w1 fun e w' => ∃ x s' n' f' F', e = .returned (.int .i64 x) ∧ CommitsTo s n f l x s' n' f' ∧ Own w w' F' lp p s' n' f' ∧ Only (lp :: F) w1 w' ∧ ∀ j ∈ F', j ∈ F ∨ w1.heap.size ≤ j := by
  refine (commit_any w1 lp p n f F s A c l hn h.log h.dev h.out hb hl hc hlate).mono ?_
  rintro e w' ⟨x, s', n', f', h1, h2, h3⟩
  obtain ⟨F', k1, k2, k3⟩ := h.acted h3
  exact ⟨x, s', n', f', F', h1, h2, k1, k2, k3⟩
end

/-- A device of the call's own. -/
structure OwnD (w w' : World) (F : List Nat) (p : Nat) (s : St) : Prop where
  dev : Dev w' p F s
  only : Only [] w w'
  new : ∀ j ∈ F, w.heap.size ≤ j ∧ j < w'.heap.size
theorem Own.d {w w1 : World} {F : List Nat} {lp p n : Nat} {s : St} {f : Bool} (h : Own w w1 F lp p s n f) : OwnD w w1 F p s := ⟨h.dev, h.only, h.new⟩
theorem OwnD.keep {w w1 w2 : World} {F : List Nat} {p : Nat} {s : St} (h : OwnD w w1 F p s) (k : Only [] w1 w2) : OwnD w w2 F p s :=
  ⟨h.dev.kept k (by simp), h.only.trans k, fun j hj => ⟨(h.new j hj).1, Nat.lt_of_lt_of_le (h.new j hj).2 k.size⟩⟩

theorem ownNew_any (w w1 : World) (N : Nat) (h1 : 1 ≤ N) (h2 : N ≤ 1024) (k : Only [] w w1) :
    Calls Try.prog 10 #[.int .i64 (N : Int)] w1 fun e w' => ∃ p F, e = .returned (.pointer (some ⟨p, 0, none⟩)) ∧ OwnD w w' F p (fresh N) ∧ Only [] w1 w' ∧ ∀ j ∈ F, w1.heap.size ≤ j := by
  refine (new_any w1 (N : Int) (by omega) (by omega)).mono ?_
  rintro e w' ⟨p, F, he, hd, hk, hF⟩
  have hc : clamp (N : Int) = N := by unfold clamp; omega
  rw [hc] at hd
  obtain ⟨F', k1, k2, k3⟩ := hd.trim
  exact ⟨p, F', he, ⟨k1, k.trans hk, fun j hj => ⟨Nat.le_trans k.size (hF j (k2 j hj)), k3 j hj⟩⟩, hk, fun j hj => hF j (k2 j hj)⟩

theorem OwnD.opens {w w1 : World} {F : List Nat} {p : Nat} {s : St} (h : OwnD w w1 F p s) (hok : openErr s = 0) (hlate : s.late.length + 40 ≤ 1048576) :
    Calls Try.prog 18 #[.pointer (some ⟨p, 0, none⟩)] w1 fun e w' => ∃ lp F', e = .returned (.tuple #[.pointer (some ⟨lp, 0, none⟩), .int .i64 0]) ∧ Own w w' F' lp p (openSt s) (openN s) false ∧ Only F w1 w' ∧ w1.heap.size ≤ lp ∧ ∀ j ∈ F', j ∈ F ∨ w1.heap.size ≤ j := by
  refine (open_any w1 p F s h.dev hlate).mono ?_
  rintro e w' ⟨F', k1, k2, k3, k4⟩
  rcases k4 with ⟨h0, _⟩ | ⟨_, lp, he, hlog, hlp, hout⟩
  · exact absurd hok h0
  · refine ⟨lp, F', he, ⟨k1, hlog, hout, Nat.le_trans h.only.size hlp, h.only.then k2 (fun i hi => .inr (h.new i hi).1), fun j hj => ⟨?_, (k3.out j hj).2⟩⟩, k2, hlp, fun j hj => (k3.out j hj).1⟩
    rcases (k3.out j hj).1 with h' | h'
    · exact (h.new j h').1
    · have := h.only.size; omega

theorem right_one (at_ : Int) (d : List UInt8) (N : Int) (h0 : 0 ≤ at_) (h1 : at_ < N) (h2 : d.length ≤ 248) : RightL [⟨at_, d⟩] N := by
  refine ⟨by simp, by simp, fun i hi x hx => ?_⟩
  have hi0 : i = 0 := by simpa using hi
  subst hi0
  simp only [List.getElem?_cons_zero, Option.some.injEq] at hx
  subst hx
  exact ⟨h0, h1, h2, fun k y hk => by omega⟩

theorem first_a : (homeL 1 ⟨1, [97]⟩).drop 8 = [97] ++ rep 247 0 := by
  rw [homeL_data _ _ (by simp)]
  decide +kernel

set_option maxRecDepth 100000 in
set_option maxHeartbeats 2000000 in
theorem alive_any (w : World) : Calls Try.prog 8 #[] w fun e w' => e = .returned (.bool true) ∧ Only [] w w' := by
  have hnew := ownNew_any w w 44 (by decide) (by decide) (Only.refl _ _)
  obtain ⟨e1, e2, e3⟩ := open_fresh 44 (by decide)
  have hlive := fresh_live 44
  have hflen := fresh_firm 44
  have hlate : (fresh 44).late.length = 0 := rfl
  generalize fresh 44 = s0 at *
  replace hnew := Lib.hid hnew
  replace hlive := Lib.hid hlive
  replace hflen := Lib.hid hflen
  replace hlate := Lib.hid hlate
  replace e2 := Lib.hid e2
  replace e3 := Lib.hid e3
  go_enter Try.func8, Try.ntmps8
  go_wp2_with fail
  refine hnew.out.mono ?_
  rintro e w1 ⟨p, F, rfl, hd1, k1, _⟩
  go_wp2_with fail
  refine (hd1.opens e1 (by have := hlate.out; omega)).mono ?_
  rintro e w2 ⟨lp, F2, rfl, h2, k2, _, _⟩
  rw [e2.out, e3.out] at h2
  replace e1 := Lib.hid e1
  clear hd1 k1 k2
  go_wp2_with fail
  have ka : Only [] w2 (w2.alloc (.cells #[.int .i64 1, .string ⟨#[97]⟩] 64)) := (Only.refl [] w2).alloc _
  have ba : Blk (w2.alloc (.cells #[.int .i64 1, .string ⟨#[97]⟩] 64)) w2.heap.size 64 #[.int .i64 1, .string ⟨#[97]⟩] := Blk.new _ _ _
  have h3 := h2.keep ka
  have hbl : Blks (w2.alloc (.cells #[.int .i64 1, .string ⟨#[97]⟩] 64)) (some ⟨w2.heap.size, 0, none⟩) [⟨1, [97]⟩] := by
    refine ⟨.inr ⟨_, 0, rfl, ba.lt, fun i hi => ?_⟩, fun y hy => ?_⟩
    · have hi0 : i = 0 := by simpa using hi
      subst hi0
      have q0 := ba.cell 0
      have q1 := ba.cell 1
      simp only [List.getElem?_toArray, List.getElem?_cons_zero, List.getElem?_cons_succ] at q0 q1
      exact ⟨q0, q1⟩
    · simp only [List.mem_singleton] at hy
      subst hy
      exact ⟨⟨by decide, by decide⟩, by decide⟩
  have hright : RightL [⟨1, [97]⟩] ((s0.firm.length : Int) - 41) := by rw [hflen.out]; exact right_one 1 [97] _ (by decide) (by decide) (by decide)
  refine (h3.commit (some ⟨w2.heap.size, 0, none⟩) 1 [⟨1, [97]⟩] (by decide) hbl (by simp) (by simp) (by have := hlate.out; omega)).mono ?_
  rintro e w4 ⟨x, s', n', f', F', rfl, hc, h4, _, _⟩
  obtain ⟨rfl, rfl, rfl, rfl⟩ := commits_live hlive.out hright (by decide) hc
  have hlen := (commitW_live (n := 0) hlive.out hright).2.2.2.1
  have hdead := (commitW_live (n := 0) hlive.out hright).2.1.1
  have hblk := commit_home (n := 0) hlive.out hright (x := ⟨1, [97]⟩) (by simp)
  generalize (commitW s0 0 [⟨1, [97]⟩]).2 = s1 at *
  have hN1 : s1.firm.length = 44 := by rw [hlen]; exact hflen.out
  have hr := lread_any w4 lp p (0 + 1) false F' s1 1 h4.log h4.dev
  have hhome : hasHome s1.firm.length 1 = true := by rw [hN1]; decide
  have hv1 : lreadErr s1 false 1 = 0 := by rw [lreadErr, hhome, if_neg (by decide), if_neg (by decide), if_neg (by rw [hdead]; decide)]
  have hv2 : lreadB s1 false 1 = [97] ++ rep 247 0 := by
    rw [lreadB, hhome, if_neg (by decide), if_neg (by decide), if_neg (by rw [hdead]; decide)]
    rw [← first_a]
    exact congrArg (List.drop 8) hblk
  rw [hv1, hv2] at hr
  have hsz := size_any w4 lp p (0 + 1) false F' s1 h4.log h4.dev
  rw [hN1] at hsz
  have hla := last_any w4 lp p (0 + 1) false h4.log
  have hcut := upto_strOf (P := Try.prog) 9 Try.underlying9 ([97] ++ rep 247 0) 2 2 .i64 rfl (by simp [rep])
  have hst : (strOf ([97] ++ rep 247 0)).size = 248 := by rw [strOf_size]; simp [rep]
  have e9 : strOf (([97] ++ rep 247 0 : List UInt8).take 2) = (⟨#[97, 0]⟩ : ByteArray) := rfl
  rw [e9] at hcut
  generalize strOf ([97] ++ rep 247 0) = X at *
  have kend := h4.only
  replace hr := Lib.hid hr
  replace hsz := Lib.hid hsz
  replace hla := Lib.hid hla
  replace hright := Lib.hid hright
  replace hc := Lib.hid hc
  replace hlen := Lib.hid hlen
  replace hblk := Lib.hid hblk
  replace hN1 := Lib.hid hN1
  clear h3 h4 h2 hbl ba ka hhome hv1 hv2 hdead
  go_wp2_with fail
  refine hr.out.mono ?_
  rintro e w5 ⟨rfl, rfl⟩
  go_wp2_with fail
  refine hsz.out.mono ?_
  rintro e w6 ⟨rfl, rfl⟩
  go_wp2_with fail
  refine hla.out.mono ?_
  rintro e w7 ⟨rfl, rfl⟩
  go_wp2
  go_ret
  exact ⟨rfl, kend⟩

end Go.Proofs.Ytihoebmfanelkaa
