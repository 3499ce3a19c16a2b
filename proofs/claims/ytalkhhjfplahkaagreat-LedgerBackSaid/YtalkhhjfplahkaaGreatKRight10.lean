/- The program's Right. -/
import Derived.Test.YtalkhhjfplahkaaGreatKE
namespace Go.Proofs.YtalkhhjfplahkaaGreat
set_option maxRecDepth 100000
open Go.RowKit

theorem chk1_no {t : List Nd} {i : Nat} {a n : Nd} (ha : t[i]? = some a) (hn : t[i + 1]? = some n) (h : ¬ (a.id < n.id ∧ nmB n.name = true ∧ szB n = true)) : ¬ Tree t := fun ht => h ((chk1_iff ha hn).1 (ht.prog1 (List.getElem?_eq_some_iff.1 hn).1))
theorem chk2_no {t : List Nd} {i : Nat} {n : Nd} (hn : t[i + 1]? = some n) (h : ¬ ((dpP t 6 n).isSome = true ∧ kidN (t.take (i + 1)) n.par n.name = none ∧ kidsN (t.take (i + 1)) n.par < 12)) : ¬ Tree t := fun ht => h ((chk2_iff hn).1 (ht.prog2 (List.getElem?_eq_some_iff.1 hn).1))
theorem dp_cases (t : List Nd) (n : Nd) (hr : t.Pairwise (fun a b => a.id < b.id)) (hm : n ∈ t) : ((dpP t 6 n).isSome = true ∧ (dpP t 6 n).getD 7 ≤ 6) ∨ ((dpP t 6 n).isSome = false ∧ (dpP t 6 n).getD 7 = 7) := by
  cases h : dpP t 6 n with
  | none => right; exact ⟨rfl, rfl⟩
  | some k => left; exact ⟨rfl, (dpP_up hr 6 hm h).1⟩

theorem wrap_succ (n : Nat) (h : n ≤ 1048576) : IntKind.i64.wrap ((n : Int) + 1) = (n : Int) + 1 := by simp only [IntKind.wrap, IntKind.bits, IntKind.signed]; simp; omega
set_option maxRecDepth 100000 in
set_option maxHeartbeats 4000000 in
theorem right_tree (w : World) (A : Option Addr) (c : Nat) (l : List Nd) (hb : Els ndE 5 w A l) (hc : l.length ≤ c) (hl : l.length ≤ 1048576) :
    Calls Tryz.prog 50 #[.slice A l.length c] w fun e w' => Says (Tree l) e ∧ Only [] w w' := by
  have hlI : (l.length : Int) ≤ 1048576 := by omega
  by_cases h0 : l.length = 0
  · have hno : ¬ Tree l := fun h => by have := congrArg List.length h.cons; simp at this; omega
    replace hno := Lib.hid hno
    rw [h0]
    go_enter Tryz.func50, Tryz.ntmps50
    go_wp2
    go_ret
    exact ⟨Says.no hno.out, Only.refl _ _⟩
  have h0b : ((l.length : Int) == 0) = false := by rw [beq_eq_false_iff_ne]; omega
  by_cases h40 : 40 < l.length
  · have hno : ¬ Tree l := fun h => by have := h.len; omega
    replace hno := Lib.hid hno
    have h40d : decide ((40 : Int) < (l.length : Int)) = true := decide_eq_true (by omega)
    go_enter Tryz.func50, Tryz.ntmps50
    go_wp2
    go_ret
    exact ⟨Says.no hno.out, Only.refl _ _⟩
  have h40d : decide ((40 : Int) < (l.length : Int)) = false := decide_eq_false (by omega)
  obtain ⟨g, o, rfl, hg, hat⟩ := hb.get (i := 0) (by omega)
  obtain ⟨a0, a1, a2, a3, a4⟩ := nds_at hat (i := 0) (by omega)
  have hroot : l[0]? = some (l[0]'(by omega)) := List.getElem?_eq_getElem (by omega)
  rw [Nat.zero_mul, Nat.add_zero] at a0 a1 a2 a3 a4
  have hv0 : ndV (l[0]'(by omega)) = .agg #[.int .u32 (l[0]'(by omega)).id, .int .u32 (l[0]'(by omega)).par, .string (strOf (l[0]'(by omega)).name), .bool (l[0]'(by omega)).dir, .int .u32 (l[0]'(by omega)).size] := rfl
  by_cases hrt : l[0]'(by omega) = rootN
  rotate_left
  · have hno : ¬ Tree l := fun h => hrt (by
      have := h.head
      rw [List.head?_eq_getElem?, hroot] at this
      injection this)
    generalize l[0]'(by omega) = x at *
    have hneb : (!decide (x = rootN)) = true := by simp [hrt]
    replace hno := Lib.hid hno
    replace hroot := Lib.hid hroot
    clear hrt hat hb
    go_enter Tryz.func50, Tryz.ntmps50
    go_wp2_with (refine wpList_neq_nd x rootN rfl _ _ _ rfl rfl rfl true hneb ?_)
    go_ret
    exact ⟨Says.no hno.out, Only.refl _ _⟩
  have hhead : l.head? = some rootN := by rw [List.head?_eq_getElem?, hroot, hrt]
  have hneb : (!decide (l[0]'(by omega) = rootN)) = false := by simp [hrt]
  generalize l[0]'(by omega) = x at *
  replace hrt := Lib.hid hrt
  have htail := hb.tail (c := c) (m := 1) hc (by omega)
  have hrun := run_tail (P := Tryz.prog) 23 42 Tryz.underlying23 size_nd' (some ⟨g, o, none⟩) l.length c 1 1 rfl (by omega)
  have hlt1 : ((l.length - 1 : Nat) : Int) = (l.length : Int) - 1 := by omega
  obtain ⟨lm, hlm⟩ : ∃ lm, lm = l.length - 1 := ⟨_, rfl⟩
  have htl : (l.drop 1).length = lm := by simp [hlm]
  rw [← hlm] at hrun hlt1
  have hdrop : ∀ n, (l.drop 1)[n]? = l[n + 1]? := fun n => by rw [List.getElem?_drop, Nat.add_comm]
  generalize tailA (some ⟨g, o, none⟩) c 1 5 = TA at *
  have hlmI : (lm : Int) ≤ 1048576 := by omega
  replace hhead := Lib.hid hhead
  replace hroot := Lib.hid hroot
  replace hdrop := Lib.hid hdrop
  replace hlm := Lib.hid hlm
  replace hlt1 := Lib.hid hlt1
  go_enter Tryz.func50, Tryz.ntmps50
  go_wp2_with (refine wpList_neq_nd x rootN rfl _ _ _ rfl rfl rfl false hneb ?_)
  clear hrt hneb hv0 a0 a1 a2 a3 a4
  go_loopw [25] (fun i wr => ∃ n : Nat, n ≤ lm ∧ i = .int .i64 n ∧ Hid (∀ j, j < n → chk1 l j = true) ∧ Only [] w wr) (fun i _ => lm - (intOf i).toNat)
  case atStart => exact ⟨0, Nat.zero_le _, rfl, fun j hj => by omega, Only.refl _ _⟩
  case round =>
    obtain ⟨n, hn, rfl, hgood, hk⟩ := hrel
    by_cases hlt : n < lm
    · have hnl : n + 1 < l.length := by have := hlm.out; omega
      have hnI : (n : Int) < (l.length : Int) := by omega
      have hn0 : (0 : Int) ≤ (n : Int) := by omega
      obtain ⟨g2, o2, hTA, hg2, hat2⟩ := htail.get (i := n) (by omega)
      subst hTA
      have hcz := nds_at (hat2.kept hk (by simp)) (i := n) (by omega)
      have hcy := nds_at (hat.kept hk (by simp)) (i := n) (by omega)
      have hny : l[n]? = some (l[n]'(by omega)) := List.getElem?_eq_getElem (by omega)
      have hnz : l[n + 1]? = some ((l.drop 1)[n]'(by omega)) := by rw [← hdrop.out]; exact List.getElem?_eq_getElem (by omega)
      have hno := fun h => chk1_no hny hnz h
      have hyes := fun h1 h2 h3 => (chk1_iff hny hnz).2 ⟨h1, h2, h3⟩
      generalize (l.drop 1)[n]'(by omega) = z at *
      generalize l[n]'(by omega) = y at *
      obtain ⟨zi, zp, zn, zd, zs⟩ := z
      obtain ⟨c0, c1, c2, c3, c4⟩ := hcz
      obtain ⟨b0, _, _, _, _⟩ := hcy
      simp only at c0 c1 c2 c3 c4 hno hyes
      have hN := fun W => named_any W zn
      have hZ := fun W => sized_any W ⟨zi, zp, zn, zd, zs⟩
      generalize hnm : nmB zn = nb at *
      generalize hsz : szB ⟨zi, zp, zn, zd, zs⟩ = sb at *
      generalize y.id = yi at *
      have hnext : chk1 l n = true → Hid (∀ j, j < n + 1 → chk1 l j = true) := fun h j hj => by
        by_cases e : j = n
        · rw [e]; exact h
        · exact hgood.out j (by omega)
      have hwa := hk.alloc (.cells #[.int .u32 zi, .int .u32 zp, .string (strOf zn), .bool zd, .int .u32 zs] 42)
      have bz := Bx.new wr ⟨zi, zp, zn, zd, zs⟩
      simp only at bz
      have hb0 : ∀ w', Only [] (wr.alloc (.cells #[.int .u32 zi, .int .u32 zp, .string (strOf zn), .bool zd, .int .u32 zs] 42)) w' → w'.cell? ⟨g, o + n * 5, none⟩ = some (.int .u32 yi) := fun w' kk => (((Only.refl [] wr).alloc _).trans kk).cell b0 (by simp)
      have KP : Hid (∀ w', Only [] (wr.alloc (.cells #[.int .u32 zi, .int .u32 zp, .string (strOf zn), .bool zd, .int .u32 zs] 42)) w' → w'.cell? ⟨wr.heap.size, 0, none⟩ = some (.int .u32 zi) ∧ w'.cell? ⟨wr.heap.size, 1, none⟩ = some (.int .u32 zp) ∧ w'.cell? ⟨wr.heap.size, 2, none⟩ = some (.string (strOf zn)) ∧ w'.cell? ⟨wr.heap.size, 3, none⟩ = some (.bool zd) ∧ w'.cell? ⟨wr.heap.size, 4, none⟩ = some (.int .u32 zs) ∧ w'.cell? ⟨g, o + n * 5, none⟩ = some (.int .u32 yi)) := fun w' kk => by
        obtain ⟨d0, d1, d2, d3, d4⟩ := (bz.kept kk (by simp)).cells
        exact ⟨d0, d1, d2, d3, d4, hb0 w' kk⟩
      have NN := Lib.hid hN
      have ZZ := Lib.hid hZ
      replace hnm := Lib.hid hnm
      replace hsz := Lib.hid hsz
      replace hny := Lib.hid hny
      replace hnz := Lib.hid hnz
      clear hN hZ hb0 bz hat2 hgood
      by_cases hlow : yi < zi
      · have hd1 : decide (zi ≤ yi) = false := decide_eq_false (by omega)
        cases nb with
        | false =>
          have hnt := hno (fun h => by cases h.2.1)
          replace hnt := Lib.hid hnt
          clear hno hyes hnext
          go_wp2_with fail
          generalize (wr.alloc (.cells #[.int .u32 zi, .int .u32 zp, .string (strOf zn), .bool zd, .int .u32 zs] 42)) = wa at *
          generalize wr.heap.size = ga at *
          refine wp_region_held_drew (S := fun w' => w'.cell? ⟨ga, 0, none⟩ = some (.int .u32 zi) ∧ w'.cell? ⟨ga, 1, none⟩ = some (.int .u32 zp) ∧ w'.cell? ⟨ga, 2, none⟩ = some (.string (strOf zn)) ∧ w'.cell? ⟨ga, 3, none⟩ = some (.bool zd) ∧ w'.cell? ⟨ga, 4, none⟩ = some (.int .u32 zs) ∧ w'.cell? ⟨g, o + n * 5, none⟩ = some (.int .u32 yi)) (by kernel_rfl) (KP.out _ (Only.refl [] _).drew) (fun hHeld => ?_)
          refine held_take 0 (.pointer (some ⟨ga, 0, none⟩)) rfl (by kernel_rfl) (by kernel_rfl) (by kernel_rfl) (fun _ _ _ h => h) hHeld (Or.inl ⟨by rfl, fun w' hSw => by (try dsimp only at hSw); (try subst hSw); go_simp⟩) ?_
          simp only [Act.put, List.setIfInBounds_toArray, List.set_cons_zero, List.set_cons_succ]
          refine held_take 1 (.int .u32 zi) rfl (by kernel_rfl) (by kernel_rfl) (by kernel_rfl) (fun _ _ _ h => h) hHeld (Or.inl ⟨by rfl, fun w' hSw => by (try dsimp only at hSw); (try subst hSw); go_simp⟩) ?_
          simp only [Act.put, List.setIfInBounds_toArray, List.set_cons_zero, List.set_cons_succ]
          refine held_take 2 (.slice (some ⟨g, o, none⟩) l.length c) rfl (by kernel_rfl) (by kernel_rfl) (by kernel_rfl) (fun _ _ _ h => h) hHeld (Or.inl ⟨by rfl, fun w' hSw => by (try dsimp only at hSw); (try subst hSw); go_simp⟩) ?_
          simp only [Act.put, List.setIfInBounds_toArray, List.set_cons_zero, List.set_cons_succ]
          refine held_take 3 (.int .i64 n) rfl (by kernel_rfl) (by kernel_rfl) (by kernel_rfl) (fun _ _ _ h => h) hHeld (Or.inl ⟨by rfl, fun w' hSw => by (try dsimp only at hSw); (try subst hSw); go_simp⟩) ?_
          simp only [Act.put, List.setIfInBounds_toArray, List.set_cons_zero, List.set_cons_succ]
          refine held_take 4 (.pointer (some ⟨g, o + n * 5, none⟩)) rfl (by kernel_rfl) (by kernel_rfl) (by kernel_rfl) (fun _ _ _ h => h) hHeld (Or.inl ⟨by rfl, fun w' hSw => by (try dsimp only at hSw); (try subst hSw); go_simp⟩) ?_
          simp only [Act.put, List.setIfInBounds_toArray, List.set_cons_zero, List.set_cons_succ]
          refine held_take 5 (.pointer (some ⟨g, o + n * 5, none⟩)) rfl (by kernel_rfl) (by kernel_rfl) (by kernel_rfl) (fun _ _ _ h => h) hHeld (Or.inl ⟨by rfl, fun w' hSw => by (try dsimp only at hSw); (try subst hSw); go_simp⟩) ?_
          simp only [Act.put, List.setIfInBounds_toArray, List.set_cons_zero, List.set_cons_succ]
          refine held_take 6 (.int .u32 yi) rfl (by kernel_rfl) (by kernel_rfl) (by kernel_rfl) (fun _ _ _ h => h) hHeld (Or.inl ⟨by rfl, fun w' hSw => by (try dsimp only at hSw); (try subst hSw); go_simp⟩) ?_
          simp only [Act.put, List.setIfInBounds_toArray, List.set_cons_zero, List.set_cons_succ]
          refine held_take 7 (.bool false) rfl (by kernel_rfl) (by kernel_rfl) (by kernel_rfl) (fun _ _ _ h => h) hHeld (Or.inl ⟨by rfl, fun w' hSw => by (try dsimp only at hSw); (try subst hSw); go_simp⟩) ?_
          simp only [Act.put, List.setIfInBounds_toArray, List.set_cons_zero, List.set_cons_succ]
          refine held_take 8 (.bool false) rfl (by kernel_rfl) (by kernel_rfl) (by kernel_rfl) (fun _ _ _ h => h) hHeld (Or.inl ⟨by rfl, fun w' hSw => by (try dsimp only at hSw); (try subst hSw); go_simp⟩) ?_
          simp only [Act.put, List.setIfInBounds_toArray, List.set_cons_zero, List.set_cons_succ]
          refine held_take 9 (.pointer (some ⟨ga, 2, none⟩)) rfl (by kernel_rfl) (by kernel_rfl) (by kernel_rfl) (fun _ _ _ h => h) hHeld (Or.inl ⟨by rfl, fun w' hSw => by (try dsimp only at hSw); (try subst hSw); go_simp⟩) ?_
          simp only [Act.put, List.setIfInBounds_toArray, List.set_cons_zero, List.set_cons_succ]
          refine held_take 10 (.string (strOf zn)) rfl (by kernel_rfl) (by kernel_rfl) (by kernel_rfl) (fun _ _ _ h => h) hHeld (Or.inl ⟨by rfl, fun w' hSw => by (try dsimp only at hSw); (try subst hSw); go_simp⟩) ?_
          simp only [Act.put, List.setIfInBounds_toArray, List.set_cons_zero, List.set_cons_succ]
          refine held_step 11 rfl (by kernel_rfl) (fun K hK => ?_)
          go_simp
          refine (NN.out _).mono ?_; rintro e w3 ⟨rfl, rfl⟩
          go_wp2_with fail
          refine hK.out _ _ (KP.out _ (Only.refl [] _).drew) (fun hHeld => ?_)
          clear hK K
          refine held_take 12 (.bool true) rfl (by kernel_rfl) (by kernel_rfl) (by kernel_rfl) (fun _ _ _ h => h) hHeld (Or.inl ⟨by rfl, fun w' hSw => by (try dsimp only at hSw); (try subst hSw); go_simp⟩) ?_
          simp only [Act.put, List.setIfInBounds_toArray, List.set_cons_zero, List.set_cons_succ]
          refine held_take 13 (.bool true) rfl (by kernel_rfl) (by kernel_rfl) (by kernel_rfl) (fun _ _ _ h => h) hHeld (Or.inl ⟨by rfl, fun w' hSw => by (try dsimp only at hSw); (try subst hSw); go_simp⟩) ?_
          simp only [Act.put, List.setIfInBounds_toArray, List.set_cons_zero, List.set_cons_succ]
          refine held_take 14 (.bool true) rfl (by kernel_rfl) (by kernel_rfl) (by kernel_rfl) (fun _ _ _ h => h) hHeld (Or.inl ⟨by rfl, fun w' hSw => by (try dsimp only at hSw); (try subst hSw); go_simp⟩) ?_
          simp only [Act.put, List.setIfInBounds_toArray, List.set_cons_zero, List.set_cons_succ]
          refine held_take 15 undef rfl (by kernel_rfl) (by kernel_rfl) (by kernel_rfl) (fun _ _ _ h => h) hHeld (Or.inr ⟨by rfl, rfl⟩) ?_
          simp only [Act.put, List.setIfInBounds_toArray, List.set_cons_zero, List.set_cons_succ]
          refine held_step 16 rfl (by kernel_rfl) (fun K hK => ?_)
          go_simp
          go_wp2_with fail
          refine hK.out _ _ (KP.out _ (Only.refl [] _).drew) (fun hHeld => ?_)
          clear hK K
          refine held_take 17 undef rfl (by kernel_rfl) (by kernel_rfl) (by kernel_rfl) (fun _ _ _ h => h) hHeld (Or.inr ⟨by rfl, rfl⟩) ?_
          simp only [Act.put, List.setIfInBounds_toArray, List.set_cons_zero, List.set_cons_succ]
          refine held_take 18 (.bool true) rfl (by kernel_rfl) (by kernel_rfl) (by kernel_rfl) (fun _ _ _ h => h) hHeld (Or.inl ⟨by rfl, fun w' hSw => by (try dsimp only at hSw); (try subst hSw); go_simp⟩) ?_
          simp only [Act.put, List.setIfInBounds_toArray, List.set_cons_zero, List.set_cons_succ]
          refine wpAnyH_done (by kernel_rfl) ?_ _
          clear hHeld
          go_wp2
          go_ret
          exact ⟨Says.no hnt.out, hwa.drew⟩
        | true =>
          cases sb with
          | false =>
            have hnt := hno (fun h => by cases h.2.2)
            replace hnt := Lib.hid hnt
            clear hno hyes hnext
            go_wp2_with fail
            generalize (wr.alloc (.cells #[.int .u32 zi, .int .u32 zp, .string (strOf zn), .bool zd, .int .u32 zs] 42)) = wa at *
            generalize wr.heap.size = ga at *
            go_region_held3 (fun w' => w'.cell? ⟨ga, 0, none⟩ = some (.int .u32 zi) ∧ w'.cell? ⟨ga, 1, none⟩ = some (.int .u32 zp) ∧ w'.cell? ⟨ga, 2, none⟩ = some (.string (strOf zn)) ∧ w'.cell? ⟨ga, 3, none⟩ = some (.bool zd) ∧ w'.cell? ⟨ga, 4, none⟩ = some (.int .u32 zs) ∧ w'.cell? ⟨g, o + n * 5, none⟩ = some (.int .u32 yi))
              (first | with_reducible exact KP.out _ (Only.refl [] _).drew | with_reducible exact KP.out _ k4)
              (first | (go_at_call 70; refine (NN.out _).mono ?_; rintro e w3 ⟨rfl, rfl⟩) | (go_at_call 71; refine (ZZ.out _).mono ?_; rintro e w4 ⟨rfl, k4⟩; replace k4 := k4.undrew))
            go_wp2
            go_ret
            exact ⟨Says.no hnt.out, hwa.trans k4⟩
          | true =>
            have hnx := hnext (hyes hlow rfl rfl)
            replace hno := Lib.hid hno
            replace hyes := Lib.hid hyes
            clear hnext
            go_wp2_with fail
            generalize (wr.alloc (.cells #[.int .u32 zi, .int .u32 zp, .string (strOf zn), .bool zd, .int .u32 zs] 42)) = wa at *
            generalize wr.heap.size = ga at *
            go_region_held3 (fun w' => w'.cell? ⟨ga, 0, none⟩ = some (.int .u32 zi) ∧ w'.cell? ⟨ga, 1, none⟩ = some (.int .u32 zp) ∧ w'.cell? ⟨ga, 2, none⟩ = some (.string (strOf zn)) ∧ w'.cell? ⟨ga, 3, none⟩ = some (.bool zd) ∧ w'.cell? ⟨ga, 4, none⟩ = some (.int .u32 zs) ∧ w'.cell? ⟨g, o + n * 5, none⟩ = some (.int .u32 yi))
              (first | with_reducible exact KP.out _ (Only.refl [] _).drew | with_reducible exact KP.out _ k4)
              (first | (go_at_call 70; refine (NN.out _).mono ?_; rintro e w3 ⟨rfl, rfl⟩) | (go_at_call 71; refine (ZZ.out _).mono ?_; rintro e w4 ⟨rfl, k4⟩; replace k4 := k4.undrew))
            go_wp2
            go_roundw
            case rel => exact ⟨n + 1, by omega, by go_num, hnx, hwa.trans k4⟩
            case measure => simp [intOf]; omega
      · have hd1 : decide (zi ≤ yi) = true := decide_eq_true (by omega)
        have hnt := hno (fun h => hlow h.1)
        replace hnt := Lib.hid hnt
        clear hno hyes hnext
        go_wp2_with fail
        have hb0' := (KP.out _ (Only.refl [] _)).2.2.2.2.2
        go_quiet (fail)
        go_wp2
        go_ret
        exact ⟨Says.no hnt.out, hwa.drewN _⟩
    · have hgood1 : Hid (∀ j, j + 1 < l.length → chk1 l j = true) := fun j hj => hgood.out j (by have := hlm.out; omega)
      have hr := rise_of_chk1 hgood1.out
      clear hgood
      go_wp2_with fail
      go_loopw [53] (fun i wr => ∃ n : Nat, n ≤ lm ∧ i = .int .i64 n ∧ Hid (∀ j, j < n → chk2 l j = true) ∧ Only [] w wr) (fun i _ => lm - (intOf i).toNat)
      case atStart => exact ⟨0, Nat.zero_le _, rfl, fun j hj => by omega, hk⟩
      case round =>
        clear hk hlt hn
        obtain ⟨n, hn, rfl, hgood, hk⟩ := hrel
        by_cases hlt : n < lm
        · have hnl : n + 1 < l.length := by have := hlm.out; omega
          have hnI : (n : Int) + 1 ≤ (c : Int) := by omega
          have hn0 : (0 : Int) ≤ (n : Int) := by omega
          have hwrap := wrap_succ n (by omega)
          obtain ⟨g2, o2, hTA, hg2, hat2⟩ := htail.get (i := n) (by omega)
          subst hTA
          have hcz := nds_at (hat2.kept hk (by simp)) (i := n) (by omega)
          have hnz : l[n + 1]? = some ((l.drop 1)[n]'(by omega)) := by rw [← hdrop.out]; exact List.getElem?_eq_getElem (by omega)
          have hno := fun h => chk2_no hnz h
          have hyes := fun h1 h2 h3 => (chk2_iff hnz).2 ⟨h1, h2, h3⟩
          have hmem : (l.drop 1)[n]'(by omega) ∈ l := List.mem_of_getElem? hnz
          have hdp := dp_cases l _ hr hmem
          have hrunh := run_head (P := Tryz.prog) 23 42 Tryz.underlying23 size_nd' (some ⟨g, o, none⟩) l.length c (n + 1) ((n : Int) + 1) (by omega) (by omega)
          have hhd := hb.head (c := c) (m := n + 1)
          have htk : (l.take (n + 1)).length = n + 1 := by simp; omega
          have hD := fun W (k : Only [] w W) x => depth_any W (some ⟨g, o, none⟩) c l x (hb.kept k (by simp)) hr hl
          have hA1 : ∀ a, tailA (some ⟨g, o, none⟩) c 0 5 = some a → a.block ∉ ([] : List Nat) := fun a _ => by simp
          have hJ := fun W (k : Only [] w W) x => joins_any W (tailA (some ⟨g, o, none⟩) c 0 5) c (l.take (n + 1)) x (hhd.kept k hA1) (by omega)
          generalize (l.drop 1)[n]'(by omega) = z at *
          have hD := fun W k => hD W k z
          have hJ := fun W k => hJ W k z
          rw [htk] at hJ
          obtain ⟨zi, zp, zn, zd, zs⟩ := z
          obtain ⟨c0, c1, c2, c3, c4⟩ := hcz
          simp only at c0 c1 c2 c3 c4 hno hyes hJ
          generalize hdv : (dpP l 6 ⟨zi, zp, zn, zd, zs⟩).getD 7 = dv at *
          generalize hds : (dpP l 6 ⟨zi, zp, zn, zd, zs⟩).isSome = ds at *
          have hjv : ((kidN (l.take (n + 1)) zp zn).isNone && decide (kidsN (l.take (n + 1)) zp < 12)) = true ↔ kidN (l.take (n + 1)) zp zn = none ∧ kidsN (l.take (n + 1)) zp < 12 := by simp
          generalize hjo : ((kidN (l.take (n + 1)) zp zn).isNone && decide (kidsN (l.take (n + 1)) zp < 12)) = jv at *
          generalize tailA (some ⟨g, o, none⟩) c 0 5 = HA at *
          have hnext : chk2 l n = true → Hid (∀ j, j < n + 1 → chk2 l j = true) := fun h j hj => by
            by_cases e : j = n
            · rw [e]; exact h
            · exact hgood.out j (by omega)
          have hwa := hk.alloc (.cells #[.int .u32 zi, .int .u32 zp, .string (strOf zn), .bool zd, .int .u32 zs] 42)
          have bz := Bx.new wr ⟨zi, zp, zn, zd, zs⟩
          simp only at bz
          have KP : Hid (∀ w', Only [] (wr.alloc (.cells #[.int .u32 zi, .int .u32 zp, .string (strOf zn), .bool zd, .int .u32 zs] 42)) w' → w'.cell? ⟨wr.heap.size, 0, none⟩ = some (.int .u32 zi) ∧ w'.cell? ⟨wr.heap.size, 1, none⟩ = some (.int .u32 zp) ∧ w'.cell? ⟨wr.heap.size, 2, none⟩ = some (.string (strOf zn)) ∧ w'.cell? ⟨wr.heap.size, 3, none⟩ = some (.bool zd) ∧ w'.cell? ⟨wr.heap.size, 4, none⟩ = some (.int .u32 zs)) := fun w' kk => (bz.kept kk (by simp)).cells
          have DD := Lib.hid hD
          have JJ := Lib.hid hJ
          replace hnz := Lib.hid hnz
          replace hmem := Lib.hid hmem
          replace hdv := Lib.hid hdv
          replace hds := Lib.hid hds
          replace hjo := Lib.hid hjo
          replace htk := Lib.hid htk
          replace hjv := Lib.hid hjv
          replace hhd := Lib.hid hhd
          clear hD hJ bz hat2 hgood hA1
          rcases hdp with ⟨hs1, hd6⟩ | ⟨hs1, hd6⟩
          · have hdd : decide ((6 : Int) < (dv : Int)) = false := decide_eq_false (by omega)
            cases jv with
            | true =>
              have hj2 := hjv.out.1 rfl
              have hnx := hnext (hyes hs1 hj2.1 hj2.2)
              replace hno := Lib.hid hno
              replace hyes := Lib.hid hyes
              clear hnext hj2
              go_wp2_with fail
              generalize (wr.alloc (.cells #[.int .u32 zi, .int .u32 zp, .string (strOf zn), .bool zd, .int .u32 zs] 42)) = wa at *
              generalize wr.heap.size = ga at *
              go_region_held3 (fun w' => w'.cell? ⟨ga, 0, none⟩ = some (.int .u32 zi) ∧ w'.cell? ⟨ga, 1, none⟩ = some (.int .u32 zp) ∧ w'.cell? ⟨ga, 2, none⟩ = some (.string (strOf zn)) ∧ w'.cell? ⟨ga, 3, none⟩ = some (.bool zd) ∧ w'.cell? ⟨ga, 4, none⟩ = some (.int .u32 zs))
                (first | with_reducible exact KP.out _ (Only.refl [] _).drew | with_reducible exact KP.out _ k4 | with_reducible exact KP.out _ k5)
                (first | (go_at_call 72; refine (DD.out _ hwa.drew).mono ?_; rintro e w4 ⟨rfl, k4⟩; replace k4 := k4.undrew) | (go_at_call 73; refine (JJ.out _ (hwa.trans k4)).mono ?_; rintro e w5 ⟨rfl, k5⟩; replace k5 := k4.trans k5))
              go_wp2
              go_roundw
              case rel => exact ⟨n + 1, by omega, by go_num, hnx, hwa.trans k5⟩
              case measure => simp [intOf]; omega
            | false =>
              have hnt := hno (fun h => by have := hjv.out.2 h.2; cases this)
              replace hnt := Lib.hid hnt
              clear hno hyes hnext
              go_wp2_with fail
              generalize (wr.alloc (.cells #[.int .u32 zi, .int .u32 zp, .string (strOf zn), .bool zd, .int .u32 zs] 42)) = wa at *
              generalize wr.heap.size = ga at *
              go_region_held3 (fun w' => w'.cell? ⟨ga, 0, none⟩ = some (.int .u32 zi) ∧ w'.cell? ⟨ga, 1, none⟩ = some (.int .u32 zp) ∧ w'.cell? ⟨ga, 2, none⟩ = some (.string (strOf zn)) ∧ w'.cell? ⟨ga, 3, none⟩ = some (.bool zd) ∧ w'.cell? ⟨ga, 4, none⟩ = some (.int .u32 zs))
                (first | with_reducible exact KP.out _ (Only.refl [] _).drew | with_reducible exact KP.out _ k4 | with_reducible exact KP.out _ k5)
                (first | (go_at_call 72; refine (DD.out _ hwa.drew).mono ?_; rintro e w4 ⟨rfl, k4⟩; replace k4 := k4.undrew) | (go_at_call 73; refine (JJ.out _ (hwa.trans k4)).mono ?_; rintro e w5 ⟨rfl, k5⟩; replace k5 := k4.trans k5))
              go_wp2
              go_ret
              exact ⟨Says.no hnt.out, hwa.trans k5⟩
          · have hdd : decide ((6 : Int) < (dv : Int)) = true := decide_eq_true (by omega)
            have hnt := hno (fun h => by rw [hs1] at h; cases h.1)
            replace hnt := Lib.hid hnt
            clear hno hyes hnext
            go_wp2_with fail
            generalize (wr.alloc (.cells #[.int .u32 zi, .int .u32 zp, .string (strOf zn), .bool zd, .int .u32 zs] 42)) = wa at *
            generalize wr.heap.size = ga at *
            refine wp_region_held_drew (S := fun w' => w'.cell? ⟨ga, 0, none⟩ = some (.int .u32 zi) ∧ w'.cell? ⟨ga, 1, none⟩ = some (.int .u32 zp) ∧ w'.cell? ⟨ga, 2, none⟩ = some (.string (strOf zn)) ∧ w'.cell? ⟨ga, 3, none⟩ = some (.bool zd) ∧ w'.cell? ⟨ga, 4, none⟩ = some (.int .u32 zs)) (by kernel_rfl) (KP.out _ (Only.refl [] _).drew) (fun hHeld => ?_)
            refine held_take 0 (.slice (some ⟨g, o, none⟩) l.length c) rfl (by kernel_rfl) (by kernel_rfl) (by kernel_rfl) (fun _ _ _ h => h) hHeld (Or.inl ⟨by rfl, fun w' hSw => by (try dsimp only at hSw); (try subst hSw); go_simp⟩) ?_
            simp only [Act.put, List.setIfInBounds_toArray, List.set_cons_zero, List.set_cons_succ]
            refine held_take 1 (.agg #[.int .u32 zi, .int .u32 zp, .string (strOf zn), .bool zd, .int .u32 zs]) rfl (by kernel_rfl) (by kernel_rfl) (by kernel_rfl) (fun _ _ _ h => h) hHeld (Or.inl ⟨by rfl, fun w' hSw => by (try dsimp only at hSw); (try subst hSw); go_simp⟩) ?_
            simp only [Act.put, List.setIfInBounds_toArray, List.set_cons_zero, List.set_cons_succ]
            refine held_step 2 rfl (by kernel_rfl) (fun K hK => ?_)
            go_simp
            refine (DD.out _ hwa.drew).mono ?_; rintro e w4 ⟨rfl, k4⟩; replace k4 := k4.undrew
            go_wp2_with fail
            refine hK.out _ _ (KP.out _ k4) (fun hHeld => ?_)
            clear hK K
            refine held_take 3 (.bool true) rfl (by kernel_rfl) (by kernel_rfl) (by kernel_rfl) (fun _ _ _ h => h) hHeld (Or.inl ⟨by rfl, fun w' hSw => by (try dsimp only at hSw); (try subst hSw); go_simp⟩) ?_
            simp only [Act.put, List.setIfInBounds_toArray, List.set_cons_zero, List.set_cons_succ]
            refine held_take 4 (.bool true) rfl (by kernel_rfl) (by kernel_rfl) (by kernel_rfl) (fun _ _ _ h => h) hHeld (Or.inl ⟨by rfl, fun w' hSw => by (try dsimp only at hSw); (try subst hSw); go_simp⟩) ?_
            simp only [Act.put, List.setIfInBounds_toArray, List.set_cons_zero, List.set_cons_succ]
            refine held_take 5 undef rfl (by kernel_rfl) (by kernel_rfl) (by kernel_rfl) (fun _ _ _ h => h) hHeld (Or.inr ⟨by rfl, rfl⟩) ?_
            simp only [Act.put, List.setIfInBounds_toArray, List.set_cons_zero, List.set_cons_succ]
            refine held_take 6 undef rfl (by kernel_rfl) (by kernel_rfl) (by kernel_rfl) (fun _ _ _ h => h) hHeld (Or.inr ⟨by rfl, rfl⟩) ?_
            simp only [Act.put, List.setIfInBounds_toArray, List.set_cons_zero, List.set_cons_succ]
            refine held_take 7 undef rfl (by kernel_rfl) (by kernel_rfl) (by kernel_rfl) (fun _ _ _ h => h) hHeld (Or.inr ⟨by rfl, rfl⟩) ?_
            simp only [Act.put, List.setIfInBounds_toArray, List.set_cons_zero, List.set_cons_succ]
            refine held_take 8 undef rfl (by kernel_rfl) (by kernel_rfl) (by kernel_rfl) (fun _ _ _ h => h) hHeld (Or.inr ⟨by rfl, rfl⟩) ?_
            simp only [Act.put, List.setIfInBounds_toArray, List.set_cons_zero, List.set_cons_succ]
            refine held_take 9 undef rfl (by kernel_rfl) (by kernel_rfl) (by kernel_rfl) (fun _ _ _ h => h) hHeld (Or.inr ⟨by rfl, rfl⟩) ?_
            simp only [Act.put, List.setIfInBounds_toArray, List.set_cons_zero, List.set_cons_succ]
            refine held_step 10 rfl (by kernel_rfl) (fun K hK => ?_)
            go_simp
            go_wp2_with fail
            refine hK.out _ _ (KP.out _ k4) (fun hHeld => ?_)
            clear hK K
            refine held_take 11 undef rfl (by kernel_rfl) (by kernel_rfl) (by kernel_rfl) (fun _ _ _ h => h) hHeld (Or.inr ⟨by rfl, rfl⟩) ?_
            simp only [Act.put, List.setIfInBounds_toArray, List.set_cons_zero, List.set_cons_succ]
            refine held_take 12 (.bool true) rfl (by kernel_rfl) (by kernel_rfl) (by kernel_rfl) (fun _ _ _ h => h) hHeld (Or.inl ⟨by rfl, fun w' hSw => by (try dsimp only at hSw); (try subst hSw); go_simp⟩) ?_
            simp only [Act.put, List.setIfInBounds_toArray, List.set_cons_zero, List.set_cons_succ]
            refine wpAnyH_done (by kernel_rfl) ?_ _
            clear hHeld
            go_wp2
            go_ret
            exact ⟨Says.no hnt.out, hwa.trans k4⟩
        · have hyes : Tree l := tree_of_prog hhead.out (by omega) hgood1.out (fun j hj => hgood.out j (by have := hlm.out; omega))
          replace hyes := Lib.hid hyes
          clear hgood
          go_wp2
          go_ret
          exact ⟨Says.yes hyes.out, hk⟩
end Go.Proofs.YtalkhhjfplahkaaGreat
