/- A commit on both. -/
import Derived.Test.YthpjkhmkjhgbkaaGreatDoorDu6
namespace Go.Proofs.YthpjkhmkjhgbkaaGreatDoor
open Go.RowKit Go.Maps

section
variable {N : Nat} {M M' : List Rw} {s s' : St} {n n' : Nat} {f f' : Bool} {l : List Ch} {x : Int}
theorem commits5_no (h : Commits5 N M s n f l x M' s' n' f') (hF : ¬ FitL l) : x = 1 ∧ Stays M s n f M' s' n' f' := by
  rcases h with ⟨_, a, b⟩ | ⟨a, _⟩ | ⟨a, _⟩ | ⟨a, _⟩
  · exact ⟨a, b⟩
  · exact absurd a hF
  · exact absurd a hF
  · exact absurd a hF
theorem commits5_full (h : Commits5 N M s n f l x M' s' n' f') (hF : FitL l) (hg : (N : Int) - (M.length : Int) < growthL M (newsL M l)) : x = 6 ∧ Stays M s n f M' s' n' f' := by
  rcases h with ⟨a, _⟩ | ⟨_, _, a, b⟩ | ⟨_, a, _⟩ | ⟨_, a, _⟩
  · exact absurd hF a
  · exact ⟨a, b⟩
  · omega
  · omega
theorem commits5_nil (h : Commits5 N M s n f l x M' s' n' f') (hF : FitL l) (hg : growthL M (newsL M l) ≤ (N : Int) - (M.length : Int)) (h0 : newsL M l = []) : x = 0 ∧ Stays M s n f M' s' n' f' := by
  rcases h with ⟨a, _⟩ | ⟨_, a, _⟩ | ⟨_, _, _, a, b⟩ | ⟨_, _, a, _⟩
  · exact absurd hF a
  · omega
  · exact ⟨a, b⟩
  · exact absurd h0 a
theorem commits5_go (h : Commits5 N M s n f l x M' s' n' f') (hF : FitL l) (hg : growthL M (newsL M l) ≤ (N : Int) - (M.length : Int)) (h0 : newsL M l ≠ []) :
    ∃ ss, Does N M (newsL M l) ss ∧ ss.Pairwise (fun a b => ltS b a = false) ∧ CommitsTo s n f (ss.map bkOf) x s' n' f' ∧ M' = if x = 0 then applyL M (newsL M l) ss else M := by
  rcases h with ⟨a, _⟩ | ⟨_, a, _⟩ | ⟨_, _, a, _⟩ | ⟨_, _, _, a⟩
  · exact absurd hF a
  · omega
  · exact absurd a h0
  · exact a
end

/-- What a commit on both comes to, where the document goes on to its log. -/
theorem both_go {N : Nat} {M M' now : List Rw} {s s' t t' : St} {n n1 n2 : Nat} {f f1 f2 : Bool} {l : List Ch} {x y : Int} {out : List Bk} (hM : Good N M) (hF : FitL l) (hg : growthL M (newsL M l) ≤ (N : Int) - (M.length : Int)) (h0 : newsL M l ≠ []) (hN : s.firm.length = 41 + N)
    (hsame : ∀ ss, Does N M (newsL M l) ss → ss.Pairwise (fun a b => ltS b a = false) → now = applyL M (newsL M l) ss ∧ out = ss.map bkP)
    (hp : Commits5 N M s n f l x M' s' n1 f1) (like : Like s t) (hr : CommitsTo t n f out y t' n2 f2) :
    x = y ∧ Like s' t' ∧ n1 = n2 ∧ f1 = f2 ∧ (x = 0 → M' = now) ∧ (x ≠ 0 → M' = M) ∧ Good N M' ∧ s'.late.length ≤ s.late.length + 100 ∧ s'.firm.length = s.firm.length ∧ (n < 4294967296 → n1 < 4294967296) := by
  have hfits := fits_of hF
  have hnf := hfits.news (M := M)
  have hng := news_gone (M := M) (l := l)
  obtain ⟨ss, hd, hs, hc, rfl⟩ := commits5_go hp hF hg h0
  obtain ⟨rfl, rfl⟩ := hsame ss hd hs
  have hsm : ∀ q ∈ ss, q.ch.key.length ≤ 16 ∧ q.ch.val.length ≤ 200 := fun q hq => (hnf.small _ (hd.ch_in q hq)).2
  have hright := right_blocks hnf hd h0
  have hc2 := commits_pad hsm (by rw [show (s.firm.length : Int) - 41 = (N : Int) by omega]; exact hright) hc
  obtain ⟨rfl, hl, rfl, rfl⟩ := like.commits hc2 hr
  obtain ⟨z1, z2, z3⟩ := commitsTo_late hc
  refine ⟨rfl, hl, rfl, rfl, fun h => by rw [if_pos h], fun h => by rw [if_neg h], ?_, z1, z2, z3⟩
  split
  · exact good_apply hM hnf hng hd
  · exact hM
/-- The document's blocks may be handed to its log. -/
theorem out_okay {N : Nat} {M now : List Rw} {l : List Ch} {out : List Bk} (hM : Good N M) (hl : Fits l) (hN : N ≤ 1024) (hg : growthL M (newsL M l) ≤ (N : Int) - (M.length : Int))
    (hsame : ∀ ss, Does N M (newsL M l) ss → ss.Pairwise (fun a b => ltS b a = false) → now = applyL M (newsL M l) ss ∧ out = ss.map bkP) : (∀ x ∈ out, x.okay) ∧ out.length ≤ 40 := by
  have hnf := hl.news (M := M)
  have hng := news_gone (M := M) (l := l)
  have hroom := room hM hnf hng hg
  have hraw := does_raw hM hnf hng hroom
  have hms := List.mergeSort_perm (rawS M N (newsL M l)) (fun a b => decide (a.at_ ≤ b.at_))
  have hsd : Does N M (newsL M l) ((rawS M N (newsL M l)).mergeSort fun a b => decide (a.at_ ≤ b.at_)) := hraw.perm hms
  have hsp : ((rawS M N (newsL M l)).mergeSort fun a b => decide (a.at_ ≤ b.at_)).Pairwise (fun a b => ltS b a = false) := by
    have := List.pairwise_mergeSort (le := fun a b : Sp => decide (a.at_ ≤ b.at_)) (fun a b c h1 h2 => by simp at *; omega) (fun a b => by simp; omega) (rawS M N (newsL M l))
    refine this.imp ?_
    intro a b h
    simp [ltS] at h ⊢
    omega
  obtain ⟨_, rfl⟩ := hsame _ hsd hsp
  refine ⟨fun x hx => ?_, by rw [List.length_map]; have := hsd.few; have := hnf.few; omega⟩
  obtain ⟨q, hq, rfl⟩ := List.mem_map.1 hx
  have h1 := hsd.at_lt q hq
  have h2 := (hnf.small _ (hsd.ch_in q hq)).2
  have h3 := bkP_length h2.1 h2.2
  refine ⟨?_, by omega⟩
  show -9223372036854775808 ≤ (q.at_ : Int) ∧ (q.at_ : Int) ≤ 9223372036854775807
  omega

set_option maxRecDepth 100000 in
set_option maxHeartbeats 4000000 in
theorem duoCommit_any (w w1 : World) (bp p m N k : Nat) (F G : List Nat) (s t : St) (lp xp rp mb n : Nat) (f : Bool) (M : List Rw) (v4 : Value) (A : Option Addr) (c : Nat) (l : List Ch)
    (h : Core5 w w1 bp p m F G s t (.pointer (some ⟨rp, 0, none⟩)) (.pointer (some ⟨xp, 0, none⟩)) v4) (rest : Rest5 w w1 bp p m F G lp xp rp mb n f M n f M v4) (like : Like s t) (len : s.firm.length = N) (late : s.late.length + 200 ≤ 200 * k) (few : n < 4294967296) (big : 42 ≤ N) (good : Good (N - 41) M) (hk : k ≤ 1000)
    (hb : Els chE 3 w A l) (hok : okayC l) (hl : l.length ≤ 9223372036854775807) (hc : l.length ≤ c) :
    Calls Tryz.prog 30 #[.pointer (some ⟨bp, 0, none⟩), .slice A l.length c] w1 fun e w' => e = .returned (.bool true) ∧ Duo5 w w' bp p m N k := by
  obtain ⟨c0, c1, c2, c3, c4⟩ := h.cells
  have hN : s.firm.length = 41 + (N - 41) := by omega
  have hfew1 := h.dev.fine.few
  have hcom := (rest.own h).commit A c l hN good few (hb.kept h.only (by simp)) hok hl hc (by omega)
  have hright := fun W (kk : Only [] w W) => rright_any W A c l (hb.kept kk (by simp)) hl
  have hMl := good.length
  have hMfew : M.length ≤ 1024 := by omega
  have hbold := h.bold
  have htf : t.firm.length = N := by rw [← like.1, len]
  obtain ⟨Nn, hNn⟩ : ∃ Nn, Nn = N - 41 := ⟨_, rfl⟩
  rw [← hNn] at good hcom hN hMl
  have hNI : ((t.firm.length : Nat) : Int) - 41 = (Nn : Int) := by omega
  have hwN : IntKind.i64.wrap ((t.firm.length : Int) - 41) = (Nn : Int) := by rw [IntKind.wrap_i64]; omega
  have hNn2 : Nn ≤ 1024 := by omega
  have hplan := fun W A4 c4 (kk : Only [] w W) (he : Els rwE 3 W A4 M) (hF : FitL l) => rplan_any W A4 A c4 c Nn M l he good.sorted good.at_lt hNn2 hMl (hb.kept kk (by simp)) (fits_of hF).few (fits_of hF).smallC
  have hpis := fun (hF : FitL l) => plan_is good (fits_of hF)
  replace hright := Lib.hid hright
  replace hplan := Lib.hid hplan
  replace hpis := Lib.hid hpis
  replace hN := Lib.hid hN
  replace hNn := Lib.hid hNn
  replace hNI := Lib.hid hNI
  replace htf := Lib.hid htf
  replace like := Lib.hid like
  replace len := Lib.hid len
  replace late := Lib.hid late
  replace hok := Lib.hid hok
  have hgood := Lib.hid good
  go_enter Tryz.func30, Tryz.ntmps30
  go_wp2_with fail
  refine hcom.mono ?_
  rintro e w2 ⟨x, M', s', n', f', F', rfl, hc5, hown, kP, hF'⟩
  have om := rest.out mb (by simp)
  have ol := rest.out lp (by simp)
  have h2 := h.turnF hown.own.dev kP (fun i hi => by
    rcases List.mem_cons.1 hi with e | hi
    · rw [e]; exact ⟨om.1, om.2.2⟩
    · rcases List.mem_cons.1 hi with e | hi
      · rw [e]; exact ⟨ol.1, ol.2.2⟩
      · exact ⟨(h.fnew i hi).1, h.apart i hi, fun e => h.bF (e ▸ hi)⟩) (fun j hj => ⟨hF' j hj, (hown.own.new j hj).2⟩)
  have rest2 := rest.acted hown kP (fun i hi => (h.fnew i hi).1) hF'
  clear hcom h rest c0 c1 c2 c3 c4 hown kP hF' om ol
  go_wp2_with fail
  refine (hright.out _ h2.only).mono ?_
  rintro e w3 ⟨⟨r, rfl, hr⟩, k3⟩
  have h3 := h2.keep k3
  have rest3 := rest2.keep k3
  clear h2 rest2 k3
  cases r with
  | false =>
    have hno : ¬ FitL l := fun h => Bool.noConfusion (hr.2 h)
    obtain ⟨rfl, rfl, rfl, rfl, rfl⟩ := commits5_no hc5 hno
    have hfin := Lib.hid (Duo5.some (k := k) F' G s' t lp xp rp mb n' f' M' v4 h3 rest3 like.out len.out (by have := late.out; omega) few big (by rw [← hNn.out]; exact hgood.out))
    clear hr hno hc5 h3 rest3
    go_wp2
    go_ret
    exact ⟨rfl, hfin.out⟩
  | true =>
    have hF := hr.1 rfl
    clear hr
    obtain ⟨A4, c4', hv4, hel, _, _, _⟩ := rest3.doc.shape rwE_length
    subst hv4
    obtain ⟨d0, d1, d2, d3, d4⟩ := h3.cells
    obtain ⟨gf, cf, Al, cl, r0, _, _, _, _⟩ := h3.ref.cells (by rw [htf.out]; omega)
    have kd : Only [] w3 w3.drew := (Only.refl [] w3).drew
    have hpl := hplan.out w3.drew A4 c4' (h3.only.trans kd) (hel.kept kd (by simp)) hF
    have hpi := hpis.out hF
    replace hF := Lib.hid hF
    go_wp2_with fail
    refine wp_region_held_drew (S := fun w' => w'.cell? ⟨bp, 4, none⟩ = some (.slice A4 M.length c4') ∧ w'.cell? ⟨bp, 1, none⟩ = some (.pointer (some ⟨m, 0, none⟩)) ∧ w'.cell? ⟨m, 0, none⟩ = some (.slice (some ⟨gf, 0, none⟩) t.firm.length cf)) (by kernel_rfl) ⟨d4, d1, r0⟩ (fun hHeld => ?_)
    refine held_take 0 (.pointer (some ⟨bp, 0, none⟩)) rfl (by kernel_rfl) (by kernel_rfl) (by kernel_rfl) (fun _ _ _ h => h) hHeld (Or.inl ⟨by rfl, fun w' hSw => by (try dsimp only at hSw); (try subst hSw); go_simp⟩) ?_
    simp only [Act.put, List.setIfInBounds_toArray, List.set_cons_zero, List.set_cons_succ]
    refine held_take 1 (.pointer (some ⟨bp, 0, none⟩)) rfl (by kernel_rfl) (by kernel_rfl) (by kernel_rfl) (fun _ _ _ h => h) hHeld (Or.inl ⟨by rfl, fun w' hSw => by (try dsimp only at hSw); (try subst hSw); go_simp⟩) ?_
    simp only [Act.put, List.setIfInBounds_toArray, List.set_cons_zero, List.set_cons_succ]
    refine held_take 2 (.pointer (some ⟨bp, 4, none⟩)) rfl (by kernel_rfl) (by kernel_rfl) (by kernel_rfl) (fun _ _ _ h => h) hHeld (Or.inl ⟨by rfl, fun w' hSw => by (try dsimp only at hSw); (try subst hSw); go_simp⟩) ?_
    simp only [Act.put, List.setIfInBounds_toArray, List.set_cons_zero, List.set_cons_succ]
    refine held_take 3 (.slice A4 M.length c4') rfl (by kernel_rfl) (by kernel_rfl) (by kernel_rfl) (fun _ _ _ h => h) hHeld (Or.inl ⟨by rfl, fun w' hSw => by (try dsimp only at hSw); (try subst hSw); go_simp⟩) ?_
    simp only [Act.put, List.setIfInBounds_toArray, List.set_cons_zero, List.set_cons_succ]
    refine held_take 4 (.pointer (some ⟨bp, 0, none⟩)) rfl (by kernel_rfl) (by kernel_rfl) (by kernel_rfl) (fun _ _ _ h => h) hHeld (Or.inl ⟨by rfl, fun w' hSw => by (try dsimp only at hSw); (try subst hSw); go_simp⟩) ?_
    simp only [Act.put, List.setIfInBounds_toArray, List.set_cons_zero, List.set_cons_succ]
    refine held_take 5 (.pointer (some ⟨bp, 0, none⟩)) rfl (by kernel_rfl) (by kernel_rfl) (by kernel_rfl) (fun _ _ _ h => h) hHeld (Or.inl ⟨by rfl, fun w' hSw => by (try dsimp only at hSw); (try subst hSw); go_simp⟩) ?_
    simp only [Act.put, List.setIfInBounds_toArray, List.set_cons_zero, List.set_cons_succ]
    refine held_take 6 (.pointer (some ⟨bp, 1, none⟩)) rfl (by kernel_rfl) (by kernel_rfl) (by kernel_rfl) (fun _ _ _ h => h) hHeld (Or.inl ⟨by rfl, fun w' hSw => by (try dsimp only at hSw); (try subst hSw); go_simp⟩) ?_
    simp only [Act.put, List.setIfInBounds_toArray, List.set_cons_zero, List.set_cons_succ]
    refine held_take 7 (.pointer (some ⟨m, 0, none⟩)) rfl (by kernel_rfl) (by kernel_rfl) (by kernel_rfl) (fun _ _ _ h => h) hHeld (Or.inl ⟨by rfl, fun w' hSw => by (try dsimp only at hSw); (try subst hSw); go_simp⟩) ?_
    simp only [Act.put, List.setIfInBounds_toArray, List.set_cons_zero, List.set_cons_succ]
    refine held_take 8 (.pointer (some ⟨m, 0, none⟩)) rfl (by kernel_rfl) (by kernel_rfl) (by kernel_rfl) (fun _ _ _ h => h) hHeld (Or.inl ⟨by rfl, fun w' hSw => by (try dsimp only at hSw); (try subst hSw); go_simp⟩) ?_
    simp only [Act.put, List.setIfInBounds_toArray, List.set_cons_zero, List.set_cons_succ]
    refine held_take 9 (.pointer (some ⟨m, 0, none⟩)) rfl (by kernel_rfl) (by kernel_rfl) (by kernel_rfl) (fun _ _ _ h => h) hHeld (Or.inl ⟨by rfl, fun w' hSw => by (try dsimp only at hSw); (try subst hSw); go_simp⟩) ?_
    simp only [Act.put, List.setIfInBounds_toArray, List.set_cons_zero, List.set_cons_succ]
    refine held_take 10 (.slice (some ⟨gf, 0, none⟩) t.firm.length cf) rfl (by kernel_rfl) (by kernel_rfl) (by kernel_rfl) (fun _ _ _ h => h) hHeld (Or.inl ⟨by rfl, fun w' hSw => by (try dsimp only at hSw); (try subst hSw); go_simp⟩) ?_
    simp only [Act.put, List.setIfInBounds_toArray, List.set_cons_zero, List.set_cons_succ]
    refine held_take 11 (.int .i64 (t.firm.length : Int)) rfl (by kernel_rfl) (by kernel_rfl) (by kernel_rfl) (fun _ _ _ h => h) hHeld (Or.inl ⟨by rfl, fun w' hSw => by (try dsimp only at hSw); (try subst hSw); go_simp⟩) ?_
    simp only [Act.put, List.setIfInBounds_toArray, List.set_cons_zero, List.set_cons_succ]
    refine held_take 12 (.int .i64 (Nn : Int)) rfl (by kernel_rfl) (by kernel_rfl) (by kernel_rfl) (fun _ _ _ h => h) hHeld (Or.inl ⟨by rfl, fun w' hSw => by (try dsimp only at hSw); (try subst hSw); go_simp⟩) ?_
    simp only [Act.put, List.setIfInBounds_toArray, List.set_cons_zero, List.set_cons_succ]
    refine held_take 13 (.slice A l.length c) rfl (by kernel_rfl) (by kernel_rfl) (by kernel_rfl) (fun _ _ _ h => h) hHeld (Or.inl ⟨by rfl, fun w' hSw => by (try dsimp only at hSw); (try subst hSw); go_simp⟩) ?_
    simp only [Act.put, List.setIfInBounds_toArray, List.set_cons_zero, List.set_cons_succ]
    refine held_step 14 rfl (by kernel_rfl) (fun K hK => ?_)
    go_simp
    go_at_call 62
    refine hpl.mono ?_
    rintro e w5 hpe
    rcases hpi with ⟨hnone, hgr⟩ | ⟨now, out, hsome, hgr, hnil, hgo⟩
    · rw [hnone] at hpe
      obtain ⟨rfl, k5⟩ := hpe
      obtain ⟨rfl, rfl, rfl, rfl, rfl⟩ := commits5_full hc5 hF.out hgr
      have h5 := (h3.keep kd).keep k5
      have rest5 := (rest3.keep kd).keep k5
      have hS5 := And.intro (k5.cell (kd.cell d4 (by simp)) (by simp)) (And.intro (k5.cell (kd.cell d1 (by simp)) (by simp)) (k5.cell (kd.cell r0 (by simp)) (by simp)))
      have hfin := Lib.hid (Duo5.some (k := k) F' G s' t lp xp rp mb n' f' M' _ h5 rest5 like.out len.out (by have := late.out; omega) few big (by rw [← hNn.out]; exact hgood.out))
      clear h3 rest3 h5 rest5 k5 hc5 hnone hgr hel hpl d0 d1 d2 d3 d4 r0
      go_wp2_with fail
      refine hK.out _ _ hS5 (fun hHeld => ?_)
      clear hK K
      refine held_take 15 (.tuple #[.slice none 0 0, .slice none 0 0, .bool false]) rfl (by kernel_rfl) (by kernel_rfl) (by kernel_rfl) (fun _ _ _ h => h) hHeld (Or.inl ⟨by rfl, fun w' hSw => by (try dsimp only at hSw); (try subst hSw); go_simp⟩) ?_
      simp only [Act.put, List.setIfInBounds_toArray, List.set_cons_zero, List.set_cons_succ]
      refine held_take 16 (.slice none 0 0) rfl (by kernel_rfl) (by kernel_rfl) (by kernel_rfl) (fun _ _ _ h => h) hHeld (Or.inl ⟨by rfl, fun w' hSw => by (try dsimp only at hSw); (try subst hSw); go_simp⟩) ?_
      simp only [Act.put, List.setIfInBounds_toArray, List.set_cons_zero, List.set_cons_succ]
      refine held_take 17 (.slice none 0 0) rfl (by kernel_rfl) (by kernel_rfl) (by kernel_rfl) (fun _ _ _ h => h) hHeld (Or.inl ⟨by rfl, fun w' hSw => by (try dsimp only at hSw); (try subst hSw); go_simp⟩) ?_
      simp only [Act.put, List.setIfInBounds_toArray, List.set_cons_zero, List.set_cons_succ]
      refine held_take 18 (.bool false) rfl (by kernel_rfl) (by kernel_rfl) (by kernel_rfl) (fun _ _ _ h => h) hHeld (Or.inl ⟨by rfl, fun w' hSw => by (try dsimp only at hSw); (try subst hSw); go_simp⟩) ?_
      simp only [Act.put, List.setIfInBounds_toArray, List.set_cons_zero, List.set_cons_succ]
      refine held_take 19 (.slice none 0 0) rfl (by kernel_rfl) (by kernel_rfl) (by kernel_rfl) (fun _ _ _ h => h) hHeld (Or.inl ⟨by rfl, fun w' hSw => by (try dsimp only at hSw); (try subst hSw); go_simp⟩) ?_
      simp only [Act.put, List.setIfInBounds_toArray, List.set_cons_zero, List.set_cons_succ]
      refine held_take 20 (.slice none 0 0) rfl (by kernel_rfl) (by kernel_rfl) (by kernel_rfl) (fun _ _ _ h => h) hHeld (Or.inl ⟨by rfl, fun w' hSw => by (try dsimp only at hSw); (try subst hSw); go_simp⟩) ?_
      simp only [Act.put, List.setIfInBounds_toArray, List.set_cons_zero, List.set_cons_succ]
      refine held_take 21 (.bool false) rfl (by kernel_rfl) (by kernel_rfl) (by kernel_rfl) (fun _ _ _ h => h) hHeld (Or.inl ⟨by rfl, fun w' hSw => by (try dsimp only at hSw); (try subst hSw); go_simp⟩) ?_
      simp only [Act.put, List.setIfInBounds_toArray, List.set_cons_zero, List.set_cons_succ]
      refine wpAnyH_done (by kernel_rfl) ?_ _
      clear hHeld
      clear hS5 kd hwN
      go_wp2
      go_ret
      exact ⟨rfl, hfin.out⟩
    · rw [hsome] at hpe
      obtain ⟨v, u, rfl, hm, A6, c6, rfl, hc6, hu, ku, hnew⟩ := hpe
      obtain ⟨Av, cv, hv, _, _, _, _⟩ := hm.shape rwE_length
      simp only at hm hu hv hc6
      subst hv
      have h5 := (h3.keep kd).keep ku
      have rest5 := (rest3.keep kd).keep ku
      have hS5 := And.intro (ku.cell (kd.cell d4 (by simp)) (by simp)) (And.intro (ku.cell (kd.cell d1 (by simp)) (by simp)) (ku.cell (kd.cell r0 (by simp)) (by simp)))
      clear hsome hel hpl d0 d1 d2 d3 d4 r0
      go_wp2_with fail
      refine hK.out _ _ hS5 (fun hHeld => ?_)
      clear hK K
      refine held_take 15 (.tuple #[.slice Av now.length cv, .slice A6 out.length c6, .bool true]) rfl (by kernel_rfl) (by kernel_rfl) (by kernel_rfl) (fun _ _ _ h => h) hHeld (Or.inl ⟨by rfl, fun w' hSw => by (try dsimp only at hSw); (try subst hSw); go_simp⟩) ?_
      simp only [Act.put, List.setIfInBounds_toArray, List.set_cons_zero, List.set_cons_succ]
      refine held_take 16 (.slice Av now.length cv) rfl (by kernel_rfl) (by kernel_rfl) (by kernel_rfl) (fun _ _ _ h => h) hHeld (Or.inl ⟨by rfl, fun w' hSw => by (try dsimp only at hSw); (try subst hSw); go_simp⟩) ?_
      simp only [Act.put, List.setIfInBounds_toArray, List.set_cons_zero, List.set_cons_succ]
      refine held_take 17 (.slice A6 out.length c6) rfl (by kernel_rfl) (by kernel_rfl) (by kernel_rfl) (fun _ _ _ h => h) hHeld (Or.inl ⟨by rfl, fun w' hSw => by (try dsimp only at hSw); (try subst hSw); go_simp⟩) ?_
      simp only [Act.put, List.setIfInBounds_toArray, List.set_cons_zero, List.set_cons_succ]
      refine held_take 18 (.bool true) rfl (by kernel_rfl) (by kernel_rfl) (by kernel_rfl) (fun _ _ _ h => h) hHeld (Or.inl ⟨by rfl, fun w' hSw => by (try dsimp only at hSw); (try subst hSw); go_simp⟩) ?_
      simp only [Act.put, List.setIfInBounds_toArray, List.set_cons_zero, List.set_cons_succ]
      refine held_take 19 (.slice Av now.length cv) rfl (by kernel_rfl) (by kernel_rfl) (by kernel_rfl) (fun _ _ _ h => h) hHeld (Or.inl ⟨by rfl, fun w' hSw => by (try dsimp only at hSw); (try subst hSw); go_simp⟩) ?_
      simp only [Act.put, List.setIfInBounds_toArray, List.set_cons_zero, List.set_cons_succ]
      refine held_take 20 (.slice A6 out.length c6) rfl (by kernel_rfl) (by kernel_rfl) (by kernel_rfl) (fun _ _ _ h => h) hHeld (Or.inl ⟨by rfl, fun w' hSw => by (try dsimp only at hSw); (try subst hSw); go_simp⟩) ?_
      simp only [Act.put, List.setIfInBounds_toArray, List.set_cons_zero, List.set_cons_succ]
      refine held_take 21 (.bool true) rfl (by kernel_rfl) (by kernel_rfl) (by kernel_rfl) (fun _ _ _ h => h) hHeld (Or.inl ⟨by rfl, fun w' hSw => by (try dsimp only at hSw); (try subst hSw); go_simp⟩) ?_
      simp only [Act.put, List.setIfInBounds_toArray, List.set_cons_zero, List.set_cons_succ]
      refine wpAnyH_done (by kernel_rfl) ?_ _
      clear hHeld
      clear hS5 hwN
      by_cases h0 : newsL M l = []
      · obtain ⟨rfl, rfl⟩ := hnil h0
        obtain ⟨rfl, rfl, rfl, rfl, rfl⟩ := commits5_nil hc5 hF.out hgr h0
        have hfin := Lib.hid (Duo5.some (k := k) F' G s' t lp xp rp mb n' f' _ _ h5 rest5 like.out len.out (by have := late.out; omega) few big (by rw [← hNn.out]; exact hgood.out))
        replace h0 := Lib.hid h0
        clear h3 rest3 h5 rest5 hc5 hgr hnil hgo hm hu ku hnew kd
        go_wp2
        go_ret
        exact ⟨rfl, hfin.out⟩
      · obtain ⟨hne, hsame⟩ := hgo h0
        have hokay := out_okay hgood.out (fits_of hF.out) hNn2 hgr hsame
        have ho1 : 1 ≤ out.length := List.length_pos_iff.2 hne
        have ho40 := hokay.2
        have hoI : 1 ≤ (out.length : Int) := by omega
        have hob : ((out.length : Int) == 0) = false := by
          rw [beq_eq_false_iff_ne]
          omega
        obtain ⟨e0, e1, e2, e3, e4⟩ := h5.cells
        have hs3 : w3.drew.heap.size = w3.heap.size := rfl
        have hrc := rcommit_any w5 xp m n f G t A6 c6 out few rest5.rlog h5.ref (rest5.out xp (by simp)).2.2.1 (blks_of_els hu hokay.1) (fun _ a ha hg => by have := hnew a ha; have := (h3.gnew _ hg).2; omega) (by omega) (by rw [htf.out]; exact big) (by rw [← like.out.2.1]; have := late.out; omega)
        have hgo2 := fun y t' n2 f2 hr => both_go (y := y) (t' := t') (n2 := n2) (f2 := f2) hgood.out hF.out hgr h0 hN.out hsame hc5 like.out hr
        replace hgo2 := Lib.hid hgo2
        replace h0 := Lib.hid h0
        replace hsame := Lib.hid hsame
        replace hrc := Lib.hid hrc
        replace hne := Lib.hid hne
        clear hgo hnil hgr hc5 hokay
        go_wp2_with fail
        refine hrc.out.mono ?_
        rintro e w6 ⟨y, t', n2, f2, rfl, hc6', G6, r1, r2, kG, hG6⟩
        obtain ⟨rfl, like', rfl, rfl, hM0, hM1, hgood', z1, z2, z3⟩ := hgo2.out y t' n2 f2 hc6'
        have ox := rest5.out xp (by simp)
        have hGw : ∀ i ∈ xp :: G, w.heap.size ≤ i ∧ i ∉ F' ∧ i ≠ bp := fun i hi => by
          rcases List.mem_cons.1 hi with e | hi
          · rw [e]; exact ⟨ox.1, ox.2.1, ox.2.2.2⟩
          · exact ⟨(h5.gnew i hi).1, fun hf => h5.apart i hf hi, fun e => h5.bG (e ▸ hi)⟩
        have h6 := h5.turnG r1 kG hGw hG6
        have rest6 := rest5.racted r2 kG (fun i hi => (h5.gnew i hi).1) (fun j hj => (hG6 j hj).1)
        obtain ⟨_, _, _, _, i4⟩ := h6.cells
        have f4 := Blk.free h6.blk 4
        by_cases hx : x = 0
        · have hMn := hM0 hx
          have hm6 : Mine rwE 3 81 w w6 (.slice Av now.length cv) now := (hm.from (h3.only.trans kd)).past kG (fun i hi => (hGw i hi).1) (fun g hg hmm => by
            have hgn := hm.new g hg
            rcases List.mem_cons.1 hmm with e | hmm
            · have := rest3.lt xp (by simp); omega
            · have := (h3.gnew g hmm).2; omega)
          have rest7 := rest6.relay hm6 (fun g hg => by
            have hgn := hm.new g hg
            have hgl := (hm.own.lt g hg).2
            have hlt3 := rest3.lt
            have hb3 := h3.lt
            refine ⟨fun hmm => ?_, fun hmm => ?_, by omega, ?_, ?_, ?_, ?_⟩
            · have := (h3.fnew _ hmm).2; omega
            · rcases (hG6 g hmm).1 with h' | h'
              · have := (h3.gnew _ h').2; omega
              · omega
            · have := hlt3 lp (by simp); omega
            · have := hlt3 xp (by simp); omega
            · have := hlt3 rp (by simp); omega
            · have := hlt3 mb (by simp); omega)
          have rest8 := rest7.stored hbold 4 (.slice Av now.length cv)
          have h8 := h6.lay4 (.slice Av now.length cv)
          have hfin := Lib.hid (Duo5.some (k := k) F' G6 s' t' lp xp rp mb n' f' now _ h8 (by rw [← hMn]; rw [← hMn] at rest8; exact rest8) like' (by rw [z2]; exact len.out) (by have := late.out; omega) (z3 few) big (by rw [← hNn.out, ← hMn]; exact hgood'))
          replace hMn := Lib.hid hMn
          replace hM0 := Lib.hid hM0
          replace hM1 := Lib.hid hM1
          subst hx
          clear h3 rest3 h5 rest5 h6 rest6 rest7 rest8 h8 hm hm6 hu ku hnew kd hgo2 hc6' r1 r2 kG hG6 like' hgood' z1 z2 z3 ox hGw
          go_wp2
          go_ret
          exact ⟨rfl, hfin.out⟩
        · have hMn := hM1 hx
          have hxb : (x == 0) = false := by simpa using hx
          subst hMn
          have hfin := Lib.hid (Duo5.some (k := k) F' G6 s' t' lp xp rp mb n' f' _ _ h6 rest6 like' (by rw [z2]; exact len.out) (by have := late.out; omega) (z3 few) big (by rw [← hNn.out]; exact hgood'))
          replace hM0 := Lib.hid hM0
          replace hM1 := Lib.hid hM1
          replace hx := Lib.hid hx
          clear h3 rest3 h5 rest5 h6 rest6 hm hu ku hnew kd hgo2 hc6' r1 r2 kG hG6 like' hgood' z1 z2 z3 ox hGw
          go_wp2
          go_ret
          exact ⟨rfl, hfin.out⟩
end Go.Proofs.YthpjkhmkjhgbkaaGreatDoor
