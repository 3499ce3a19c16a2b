/- A request's fragments: byte by byte (frs), by the program, by the document. -/
import Derived.Test.YtiadhmjmiaamcaaLen
import Derived.Test.YtiadhmjmiaamcaaMine
namespace Go.Proofs.Ytiadhmjmiaamcaa
open Go.RowKit Go.Proofs.Ytiadhmjmiaamcaa.Fl

/-- A fragment: its server, its place there, its place in the request, its length. -/
structure Fg where
  sv : Int
  off : Int
  at_ : Int
  len : Int
instance : Inhabited Fg := ⟨⟨0, 0, 0, 0⟩⟩
def fgE (f : Fg) : List Value := [.int .i64 f.sv, .int .i64 f.off, .int .i64 f.at_, .int .i64 f.len]
theorem fgE_length (f : Fg) : (fgE f).length = 4 := rfl
theorem fgE_one (f : Fg) : ∀ v ∈ fgE f, v.oneCell' = true := by
  intro v hv
  simp [fgE] at hv
  rcases hv with rfl | rfl | rfl | rfl <;> rfl
theorem info_fg : (Try.prog.info? 43).map (fun i => (i.zero, i.size, i.bytes)) = some (some (.agg #[.int .i64 0, .int .i64 0, .int .i64 0, .int .i64 0]), 4, 32) := by kernel_rfl
theorem fgs_at {w : World} {g o : Nat} {l : List Fg} (h : ElsAt fgE 4 w g o l) {i : Nat} (hi : i < l.length) :
    w.cell? ⟨g, o + i * 4, none⟩ = some (.int .i64 l[i].sv) ∧ w.cell? ⟨g, o + i * 4 + 1, none⟩ = some (.int .i64 l[i].off) ∧ w.cell? ⟨g, o + i * 4 + 2, none⟩ = some (.int .i64 l[i].at_) ∧ w.cell? ⟨g, o + i * 4 + 3, none⟩ = some (.int .i64 l[i].len) :=
  ⟨by simpa using h i hi 0 _ rfl, h i hi 1 _ rfl, h i hi 2 _ rfl, h i hi 3 _ rfl⟩

/-- The last fragment, a byte longer. -/
def bump (l : List Fg) : List Fg := match l.reverse with
  | [] => []
  | f :: r => r.reverse ++ [{ f with len := f.len + 1 }]
theorem bump_snoc (l : List Fg) (f : Fg) : bump (l ++ [f]) = l ++ [{ f with len := f.len + 1 }] := by simp [bump]
theorem bump_length (l : List Fg) : (bump l).length = l.length := by
  refine snoc_ind (p := fun l => (bump l).length = l.length) rfl (fun l f _ => ?_) l
  rw [bump_snoc]; simp

/-- The fragments of the first bytes of a request from o on, byte by byte. -/
def frs (s u t o : Int) : Nat → List Fg
  | 0 => []
  | j + 1 => if (o + j) % u = 0 ∨ frs s u t o j = [] then frs s u t o j ++ [⟨srv s u t (o + j), pos s u (o + j), j, 1⟩] else bump (frs s u t o j)

theorem frs_length {s u t o : Int} (j : Nat) : (frs s u t o j).length ≤ j := by
  induction j with
  | zero => exact Nat.le_refl _
  | succ j ih =>
    rw [frs]
    split
    · simp; omega
    · rw [bump_length]; omega
theorem frs_some {s u t o : Int} (j : Nat) (h : 0 < j) : frs s u t o j ≠ [] := by
  obtain ⟨i, rfl⟩ : ∃ i, j = i + 1 := ⟨j - 1, by omega⟩
  rw [frs]
  split
  · simp
  · rename_i hn
    intro h0
    have := bump_length (frs s u t o i)
    rw [h0] at this
    exact hn (.inr (List.eq_nil_of_length_eq_zero this.symm))

theorem rem_add {a u m : Int} (u1 : 1 ≤ u) (m0 : 0 ≤ m) (h : a % u + m < u) : (a + m) % u = a % u + m := by
  have e0 := Int.emod_nonneg a (show u ≠ 0 by omega)
  rw [← Int.emod_add_emod, Int.emod_eq_of_lt (by omega) h]

/-- A whole fragment at once. -/
theorem frs_seg {s u t o : Int} (u1 : 1 ≤ u) (i m : Nat) (hi : (o + i) % u = 0 ∨ i = 0) (hm : (o + i) % u + (m + 1 : Nat) ≤ u) :
    frs s u t o (i + (m + 1)) = frs s u t o i ++ [⟨srv s u t (o + i), pos s u (o + i), i, (m + 1 : Nat)⟩] := by
  induction m with
  | zero =>
    rw [frs, if_pos (hi.imp id (fun h => by subst h; rfl))]
    rfl
  | succ m ih =>
    have h0 := Int.emod_nonneg (o + i) (show u ≠ 0 by omega)
    have ih' := ih (by omega)
    have hr := rem_add (a := o + i) (m := (m + 1 : Nat)) u1 (by omega) (by omega)
    rw [show i + (m + 1 + 1) = (i + (m + 1)) + 1 by omega, frs, ih', if_neg, bump_snoc]
    · simp
    · rintro (h | h)
      · rw [show o + ((i + (m + 1) : Nat) : Int) = o + i + (m + 1 : Nat) by omega, hr] at h
        omega
      · simp at h

theorem frags_no (s u t o l : Int) (w : World) (h : ¬ (Rt s u t ∧ 0 ≤ o ∧ 0 ≤ l ∧ o + l ≤ 1024)) (l9 : l ≤ 9223372036854775807) :
    Calls Try.prog 18 #[.agg #[.int .i64 s, .int .i64 u, .int .i64 t], .int .i64 o, .int .i64 l] w fun e w' => e = .returned (.tuple #[.slice none 0 0, .int .i64 1]) ∧ Only [] w w' := by
  by_cases hr : Rt s u t
  · by_cases h0 : o < 0
    · clear h
      go_enter Try.func18, Try.ntmps18
      go_wp2_with fail
      refine (right_yes s u t _ hr).mono ?_; rintro e w1 ⟨rfl, k1⟩
      go_wp2_with fail
      go_ret2
      exact ⟨rfl, k1.boxed⟩
    · have d0 : decide (o < 0) = false := by simp; omega
      by_cases h1 : l < 0
      · clear h
        go_enter Try.func18, Try.ntmps18
        go_wp2_with fail
        refine (right_yes s u t _ hr).mono ?_; rintro e w1 ⟨rfl, k1⟩
        go_wp2_with fail
        go_ret2
        exact ⟨rfl, k1.boxed⟩
      · have d1 : decide (l < 0) = false := by simp; omega
        have l0 : 0 ≤ l := by omega
        have d2 : decide (1024 - l < o) = true := by
          have : ¬ o + l ≤ 1024 := fun h2 => h ⟨hr, by omega, l0, h2⟩
          simp; omega
        clear h h0 h1
        go_enter Try.func18, Try.ntmps18
        go_wp2_with fail
        refine (right_yes s u t _ hr).mono ?_; rintro e w1 ⟨rfl, k1⟩
        go_wp2_with fail
        go_ret2
        exact ⟨rfl, k1.boxed⟩
  · clear h
    go_enter Try.func18, Try.ntmps18
    go_wp2_with fail
    refine (right_no s u t _ hr).mono ?_; rintro e w1 ⟨rfl, k1⟩
    go_wp2_with fail
    go_ret2
    exact ⟨rfl, k1.boxed⟩

set_option maxHeartbeats 2000000 in
theorem frags_ok (s u t o l : Int) (n : Nat) (hn : l = n) (w : World) (h : Rt s u t) (o0 : 0 ≤ o) (l0 : 0 ≤ l) (h1 : o + l ≤ 1024) :
    Calls Try.prog 18 #[.agg #[.int .i64 s, .int .i64 u, .int .i64 t], .int .i64 o, .int .i64 l] w fun e w' => ∃ v, e = .returned (.tuple #[v, .int .i64 0]) ∧ Mine fgE 4 43 w w' v (frs s u t o n) := by
  have R := Lib.hid h
  have HN := Lib.hid hn
  obtain ⟨s1, s2, u1, u2, t1, t2⟩ := h
  clear hn
  go_enter Try.func18, Try.ntmps18
  go_wp2_with fail
  refine (right_yes s u t _ R.out).mono ?_; rintro e w1 ⟨rfl, k1⟩
  go_wp2_with fail
  go_loopw [8, 9] (fun v a wr => ∃ i : Nat, (i : Int) ≤ l ∧ a = .int .i64 i ∧ ((o + i) % u = 0 ∨ i = 0 ∨ (i : Int) = l) ∧ Mine fgE 4 43 (w.alloc (.cells #[.int .i64 s, .int .i64 u, .int .i64 t] 23)) wr v (frs s u t o i)) (fun _ a _ => (l - intOf a).toNat)
  case atStart => exact ⟨0, by omega, rfl, .inr (.inl rfl), Mine.start _ _ _ k1⟩
  case round =>
    obtain ⟨i, i1, rfl, hi, hm⟩ := hrel
    obtain ⟨c0, c1, c2⟩ := box3 hm.only
    by_cases hlt : (i : Int) < l
    · have hi' : (o + i) % u = 0 ∨ i = 0 := by
        rcases hi with h | h | h
        · exact .inl h
        · exact .inr h
        · omega
      have e0 := Int.emod_nonneg (o + i) (show u ≠ 0 by omega)
      have e1 := Int.emod_lt_of_pos (o + i) (show 0 < u by omega)
      obtain ⟨m, hmm⟩ : ∃ m : Nat, ((m + 1 : Nat) : Int) = if l - i < u - (o + i) % u then l - i else u - (o + i) % u := ⟨(if l - i < u - (o + i) % u then l - i else u - (o + i) % u).toNat - 1, by split <;> omega⟩
      have hm1 : (o + i) % u + (m + 1 : Nat) ≤ u := by rw [hmm]; split <;> omega
      have hm2 : (i : Int) + (m + 1 : Nat) ≤ l := by rw [hmm]; split <;> omega
      have hm3 : (o + ((i + (m + 1) : Nat) : Int)) % u = 0 ∨ ((i + (m + 1) : Nat) : Int) = l := by
        by_cases hc : l - i < u - (o + i) % u
        · rw [if_pos hc] at hmm; exact .inr (by omega)
        · rw [if_neg hc] at hmm
          refine .inl ?_
          rw [show o + ((i + (m + 1) : Nat) : Int) = o + i + (u - (o + i) % u) by omega, show o + i + (u - (o + i) % u) = (o + i - (o + i) % u) + u by omega, Int.add_emod_right, Int.sub_emod, Int.emod_emod, Int.sub_self]
          rfl
      have hseg := frs_seg (s := s) (t := t) u1 i m hi' hm1
      have hL : (frs s u t o i).length ≤ 1024 := Nat.le_trans (frs_length i) (by omega)
      clear hi hi'
      obtain ⟨M, hM⟩ : ∃ M : Int, M = (m + 1 : Nat) := ⟨_, rfl⟩
      rw [← hM] at hmm hseg hm2
      have M0 : 1 ≤ M := by omega
      have M1 : M ≤ 1024 := by omega
      replace hseg := Lib.hid hseg
      replace hm3 := Lib.hid hm3
      replace hM := Lib.hid hM
      clear hm1
      generalize hLL : frs s u t o i = L at *
      have hfg : fgE ⟨srv s u t (o + i), pos s u (o + i), i, M⟩ = [.int .i64 (srv s u t (o + i)), .int .i64 (pos s u (o + i)), .int .i64 i, .int .i64 M] := rfl
      by_cases hc : l - i < u - (o + i) % u
      all_goals
        first | rw [if_pos hc] at hmm | rw [if_neg hc] at hmm
        have hmm' := Lib.hid hmm
        clear hmm
        go_wp2_with fail
        go_region
        go_wp2_with fail
        refine (spot_any s u t (o + i) _ R.out (by omega) (by omega)).mono ?_; rintro e w3 ⟨rfl, k3⟩
        have hm3' := hm.keep k3.undrew
        rw [← hmm'.out]
        have b5 : Blk (w3.alloc (.cells #[.int .i64 (srv s u t (o + i)), .int .i64 (pos s u (o + i)), .int .i64 i, .int .i64 M] 43)) w3.heap.size 43 (fgE ⟨srv s u t (o + i), pos s u (o + i), i, M⟩).toArray := by rw [hfg]; exact Blk.new _ _ _
        have hm5 := hm3'.keep ((Only.refl [] w3).alloc (.cells #[.int .i64 (srv s u t (o + i)), .int .i64 (pos s u (o + i)), .int .i64 i, .int .i64 M] 43))
        go_wp2_with (at_builtin; go_must (refine wpList_push rfl _ _ 35 rfl 43 _ 32 fgE_length (by decide) fgE_one Try.underlying35 info_fg rfl _ L.length L rfl hm5.own w3.heap.size _ _ rfl b5 (by unfold maxLen; omega) (by omega) ?_); intro vv w6 h6 g6 a6)
        have hm6 := hm5.pushed h6 g6 a6
        rw [← hseg.out] at hm6
        go_wp2_with fail
        go_roundw
        case rel => exact ⟨i + (m + 1), by have := hM.out; omega, by have := hM.out; go_num, by have := hm3.out; omega, hm6⟩
        case measure => simp [intOf]; omega
    · have hil : i = n := by have := HN.out; omega
      subst hil
      clear hi
      have hfin := Mine.from ((Only.refl [] w).alloc _) hm
      replace hfin := Lib.hid hfin
      clear hm
      go_wp2
      go_ret2
      exact ⟨_, rfl, hfin.out⟩

end Go.Proofs.Ytiadhmjmiaamcaa
