/- Whether a state's works may be. -/
import Derived.Test.YtalkhhjfplahkaaGreatKLrt14
namespace Go.Proofs.YtalkhhjfplahkaaGreat
open Go.RowKit
set_option linter.unusedVariables false

structure WkInv (t : List Nd) (l : List Wk) (n : Nat) : Prop where
  each : ∀ w ∈ l.take n, isFileL t w.file = true ∧ WorkR w
  rise : (l.take n).Pairwise (fun a b => a.file < b.file)
theorem WkInv.zero (t : List Nd) (l : List Wk) : WkInv t l 0 := ⟨by simp, by simp⟩
theorem WkInv.succ {t : List Nd} {l : List Wk} {n : Nat} {x : Wk} (h : WkInv t l n) (hx : l[n]? = some x) (h1 : isFileL t x.file = true) (h2 : WorkR x) (h3 : ∀ j p, n = j + 1 → l[j]? = some p → p.file < x.file) : WkInv t l (n + 1) :=
  ⟨all_take h.each hx ⟨h1, h2⟩, rise_take (f := (·.file)) h.rise hx h3⟩

set_option maxRecDepth 100000 in
set_option maxHeartbeats 8000000 in
theorem worksRight_any (w : World) (s : Sta) (p : Sp) (h : StM w s p) : Calls Tryz.prog 33 #[staV s p] w fun e w' => Says (WorksR s) e ∧ Only [] w w' := by
  have k0 : Only [] w (w.alloc (.cells #[.int .u32 s.boot, .int .u32 s.next, .slice p.tA s.tree.length p.tc, .slice p.oA s.opens.length p.oc, .slice p.lA s.locks.length p.lc, .slice p.wA s.works.length p.wc, .slice p.sA s.seats.length p.sc] 29)) := (Only.refl [] w).alloc _
  have bx := Sx.new w s p
  have hF0 := fun (i : Int) W (kW : Only [] w W) => isFile_any W s p i (h.kept kW)
  have hW0 := fun x (hx : x ∈ s.works) W => workRight_any W x (h.fit.works x hx) (h.wd x hx)
  have hb := h.works
  have hl := h.wl
  have hz := WkInv.zero s.tree s.works
  have hsu := fun n x => WkInv.succ (t := s.tree) (l := s.works) (n := n) (x := x)
  have hdo : ∀ n, WkInv s.tree s.works n → s.works.length ≤ n → WorksR s := fun n hi hn => by
    obtain ⟨a, b⟩ := hi
    rw [List.take_of_length_le hn] at a b
    exact ⟨a, b⟩
  have b1 : ∀ x ∈ s.works, isFileL s.tree x.file = false → ¬ WorksR s := fun x hx e r => by rw [(r.each x hx).1] at e; cases e
  have b2 : ∀ x ∈ s.works, ¬ WorkR x → ¬ WorksR s := fun x hx e r => e (r.each x hx).2
  have b3 : ∀ j (x q : Wk), s.works[j]? = some q → s.works[j + 1]? = some x → ¬ q.file < x.file → ¬ WorksR s := fun j x q hq hx hn r => rise_bad (f := (·.file)) hq hx hn r.rise
  unfold staV at hF0 ⊢
  generalize WorksR s = R at *
  obtain ⟨sb, sn, t, so, sl, sw, ss⟩ := s
  obtain ⟨tA, tc, oA, oc, lA, lc, lv, wA, wc, sA, sc⟩ := p
  simp only at k0 bx hF0 hW0 hb hl hz hsu hdo b1 b2 b3 ⊢
  have KB := fun W kW => bx.at (S := []) (w' := W) kW (by simp)
  simp only at KB
  generalize hIt : isFileL t = IF at *
  obtain ⟨I, hI⟩ : ∃ I, I = WkInv t sw := ⟨_, rfl⟩
  rw [← hI] at hz
  simp only [← hI] at hsu hdo
  replace hI := Lib.hid hI
  replace hIt := Lib.hid hIt
  replace hF0 := Lib.hid hF0
  replace hW0 := Lib.hid hW0
  replace hz := Lib.hid hz
  replace hsu := Lib.hid hsu
  replace hdo := Lib.hid hdo
  replace b1 := Lib.hid b1
  replace b2 := Lib.hid b2
  replace b3 := Lib.hid b3
  obtain ⟨c0, c1, c2, c3, c4, c5, c6⟩ := KB _ (Only.refl _ _)
  replace KB := Lib.hid KB
  clear h bx
  have hlI : (sw.length : Int) ≤ 1048576 := by omega
  go_enter Tryz.func33, Tryz.ntmps33
  go_wp2_with fail
  clear c0 c1 c2 c3 c4 c5 c6
  go_loopw [8] (fun i wr => ∃ n : Nat, n ≤ sw.length ∧ i = .int .i64 n ∧ Hid (I n) ∧ Only [] (w.alloc (.cells #[.int .u32 sb, .int .u32 sn, .slice tA t.length tc, .slice oA so.length oc, .slice lA sl.length lc, .slice wA sw.length wc, .slice sA ss.length sc] 29)) wr) (fun i _ => sw.length - (intOf i).toNat)
  case atStart => exact ⟨0, Nat.zero_le _, rfl, hz, Only.refl _ _⟩
  case round =>
    obtain ⟨n, hn, rfl, hi, hk⟩ := hrel
    have hkw := k0.trans hk
    by_cases hlt : n < sw.length
    rotate_left
    · have hy := Lib.hid (hdo.out n hi.out (by omega))
      go_wp2
      go_ret
      exact ⟨Says.yes hy.out, hkw⟩
    obtain ⟨g, o, rfl, hg, hat⟩ := hb.get hlt
    have hat' := hat.kept hkw (by simp)
    obtain ⟨e0, e1, e2, e3, e4, e5, e6, e7⟩ := wks_at hat' hlt
    have hx : sw[n]? = some sw[n] := List.getElem?_eq_getElem hlt
    have hxm : sw[n] ∈ sw := List.getElem_mem hlt
    have hprev : ∀ j, n = j + 1 → ∃ p : Wk, sw[j]? = some p ∧ ∀ W, Only [] w W → W.cell? ⟨g, o + j * 8, none⟩ = some (.int .u32 p.file) := fun j hj => by
      have hj' : j < sw.length := by omega
      exact ⟨sw[j], List.getElem?_eq_getElem hj', fun W kW => (wks_at (hat.kept kW (by simp)) hj').1⟩
    generalize sw[n] = x at *
    have hF := hF0.out x.file
    have hW := hW0.out x hxm
    have hb1 := b1.out x hxm
    have hb2 := b2.out x hxm
    have hb3 := fun j p (hj : n = j + 1) (hp : sw[j]? = some p) => b3.out j x p hp (by rw [← hj]; exact hx)
    have hs1 := hsu.out n x hi.out hx
    obtain ⟨Rw, hRw⟩ : ∃ Rw, Rw = WorkR x := ⟨_, rfl⟩
    rw [← hRw] at hW hb2 hs1
    obtain ⟨x0, x1, x2, x3, x4, x5, x6, x7⟩ := x
    simp only [wkV] at hF hW hb1 hb3 hs1 e0 e1 e2 e3 e4 e5 e6 e7
    have hka : Only [] (w.alloc (.cells #[.int .u32 sb, .int .u32 sn, .slice tA t.length tc, .slice oA so.length oc, .slice lA sl.length lc, .slice (some ⟨g, o, none⟩) sw.length wc, .slice sA ss.length sc] 29)) (wr.alloc (.cells #[.int .u32 x0, .int .u32 x1, .int .u32 x2, .int .u32 x3, .int .i64 x4, .int .u32 x5, .int .u32 x6, .string (strOf x7)] 50)) := hk.alloc _
    have hwa := k0.trans hka
    have wx := Blk.new wr 50 #[.int .u32 x0, .int .u32 x1, .int .u32 x2, .int .u32 x3, .int .i64 x4, .int .u32 x5, .int .u32 x6, .string (strOf x7)]
    have KP : Hid (∀ w', Only [] (wr.alloc (.cells #[.int .u32 x0, .int .u32 x1, .int .u32 x2, .int .u32 x3, .int .i64 x4, .int .u32 x5, .int .u32 x6, .string (strOf x7)] 50)) w' → (w'.cell? ⟨w.heap.size, 0, none⟩ = some (.int .u32 sb) ∧ w'.cell? ⟨w.heap.size, 1, none⟩ = some (.int .u32 sn) ∧ w'.cell? ⟨w.heap.size, 2, none⟩ = some (.slice tA t.length tc) ∧ w'.cell? ⟨w.heap.size, 3, none⟩ = some (.slice oA so.length oc) ∧ w'.cell? ⟨w.heap.size, 4, none⟩ = some (.slice lA sl.length lc) ∧ w'.cell? ⟨w.heap.size, 5, none⟩ = some (.slice (some ⟨g, o, none⟩) sw.length wc) ∧ w'.cell? ⟨w.heap.size, 6, none⟩ = some (.slice sA ss.length sc)) ∧ (w'.cell? ⟨wr.heap.size, 0, none⟩ = some (.int .u32 x0) ∧ w'.cell? ⟨wr.heap.size, 1, none⟩ = some (.int .u32 x1) ∧ w'.cell? ⟨wr.heap.size, 2, none⟩ = some (.int .u32 x2) ∧ w'.cell? ⟨wr.heap.size, 3, none⟩ = some (.int .u32 x3) ∧ w'.cell? ⟨wr.heap.size, 4, none⟩ = some (.int .i64 x4) ∧ w'.cell? ⟨wr.heap.size, 5, none⟩ = some (.int .u32 x5) ∧ w'.cell? ⟨wr.heap.size, 6, none⟩ = some (.int .u32 x6) ∧ w'.cell? ⟨wr.heap.size, 7, none⟩ = some (.string (strOf x7)))) := fun W kW => by
      obtain ⟨a0, a1, a2, a3, a4, a5, a6⟩ := KB.out W (hka.trans kW)
      have b := Blk.kept wx kW (by simp)
      exact ⟨⟨a0, a1, a2, a3, a4, a5, a6⟩, b.cell 0, b.cell 1, b.cell 2, b.cell 3, b.cell 4, b.cell 5, b.cell 6, b.cell 7⟩
    replace hF := Lib.hid hF
    replace hW := Lib.hid hW
    replace hx := Lib.hid hx
    replace hxm := Lib.hid hxm
    replace hb1 := Lib.hid hb1
    replace hb2 := Lib.hid hb2
    replace hb3 := Lib.hid hb3
    replace hs1 := Lib.hid hs1
    replace hprev := Lib.hid hprev
    replace hRw := Lib.hid hRw
    replace hk := Lib.hid hk
    clear hat hat' hb wx
    generalize hfb : IF x0 = fb at *
    replace hfb := Lib.hid hfb
    go_wp2_with fail
    clear e0 e1 e2 e3 e4 e5 e6 e7
    generalize (wr.alloc (.cells #[.int .u32 x0, .int .u32 x1, .int .u32 x2, .int .u32 x3, .int .i64 x4, .int .u32 x5, .int .u32 x6, .string (strOf x7)] 50)) = wa at *
    generalize wr.heap.size = ga at *
    cases fb with
    | false =>
      have hnt := Lib.hid (hb1.out rfl)
      refine wp_region_held_drew (S := fun w' => (w'.cell? ⟨w.heap.size, 0, none⟩ = some (.int .u32 sb) ∧ w'.cell? ⟨w.heap.size, 1, none⟩ = some (.int .u32 sn) ∧ w'.cell? ⟨w.heap.size, 2, none⟩ = some (.slice tA t.length tc) ∧ w'.cell? ⟨w.heap.size, 3, none⟩ = some (.slice oA so.length oc) ∧ w'.cell? ⟨w.heap.size, 4, none⟩ = some (.slice lA sl.length lc) ∧ w'.cell? ⟨w.heap.size, 5, none⟩ = some (.slice (some ⟨g, o, none⟩) sw.length wc) ∧ w'.cell? ⟨w.heap.size, 6, none⟩ = some (.slice sA ss.length sc)) ∧ (w'.cell? ⟨ga, 0, none⟩ = some (.int .u32 x0) ∧ w'.cell? ⟨ga, 1, none⟩ = some (.int .u32 x1) ∧ w'.cell? ⟨ga, 2, none⟩ = some (.int .u32 x2) ∧ w'.cell? ⟨ga, 3, none⟩ = some (.int .u32 x3) ∧ w'.cell? ⟨ga, 4, none⟩ = some (.int .i64 x4) ∧ w'.cell? ⟨ga, 5, none⟩ = some (.int .u32 x5) ∧ w'.cell? ⟨ga, 6, none⟩ = some (.int .u32 x6) ∧ w'.cell? ⟨ga, 7, none⟩ = some (.string (strOf x7)))) (by kernel_rfl) (KP.out _ (Only.refl [] _).drew) (fun hHeld => ?_)
      refine held_take 0 (.agg #[.int .u32 sb, .int .u32 sn, .slice tA t.length tc, .slice oA so.length oc, .slice lA sl.length lc, .slice (some ⟨g, o, none⟩) sw.length wc, .slice sA ss.length sc]) rfl (by kernel_rfl) (by kernel_rfl) (by kernel_rfl) (fun _ _ _ h => h) hHeld (Or.inl ⟨by rfl, fun w' hSw => by (try dsimp only at hSw); (try subst hSw); go_simp⟩) ?_
      simp only [Act.put, List.setIfInBounds_toArray, List.set_cons_zero, List.set_cons_succ]
      refine held_take 1 (.pointer (some ⟨ga, 0, none⟩)) rfl (by kernel_rfl) (by kernel_rfl) (by kernel_rfl) (fun _ _ _ h => h) hHeld (Or.inl ⟨by rfl, fun w' hSw => by (try dsimp only at hSw); (try subst hSw); go_simp⟩) ?_
      simp only [Act.put, List.setIfInBounds_toArray, List.set_cons_zero, List.set_cons_succ]
      refine held_take 2 (.int .u32 x0) rfl (by kernel_rfl) (by kernel_rfl) (by kernel_rfl) (fun _ _ _ h => h) hHeld (Or.inl ⟨by rfl, fun w' hSw => by (try dsimp only at hSw); (try subst hSw); go_simp⟩) ?_
      simp only [Act.put, List.setIfInBounds_toArray, List.set_cons_zero, List.set_cons_succ]
      refine held_step 3 rfl (by kernel_rfl) (fun K hK => ?_)
      go_simp
      refine (hF.out _ hwa.drew).mono ?_; rintro e w5 ⟨rfl, k5⟩; replace k5 := k5.undrew
      go_wp2_with fail
      refine hK.out _ _ (KP.out _ k5) (fun hHeld => ?_)
      clear hK K
      refine held_take 4 (.bool true) rfl (by kernel_rfl) (by kernel_rfl) (by kernel_rfl) (fun _ _ _ h => h) hHeld (Or.inl ⟨by rfl, fun w' hSw => by (try dsimp only at hSw); (try subst hSw); go_simp⟩) ?_
      simp only [Act.put, List.setIfInBounds_toArray, List.set_cons_zero, List.set_cons_succ]
      refine held_take 5 (.bool true) rfl (by kernel_rfl) (by kernel_rfl) (by kernel_rfl) (fun _ _ _ h => h) hHeld (Or.inl ⟨by rfl, fun w' hSw => by (try dsimp only at hSw); (try subst hSw); go_simp⟩) ?_
      simp only [Act.put, List.setIfInBounds_toArray, List.set_cons_zero, List.set_cons_succ]
      refine held_take 6 undef rfl (by kernel_rfl) (by kernel_rfl) (by kernel_rfl) (fun _ _ _ h => h) hHeld (Or.inr ⟨by rfl, rfl⟩) ?_
      simp only [Act.put, List.setIfInBounds_toArray, List.set_cons_zero, List.set_cons_succ]
      refine held_take 7 undef rfl (by kernel_rfl) (by kernel_rfl) (by kernel_rfl) (fun _ _ _ h => h) hHeld (Or.inr ⟨by rfl, rfl⟩) ?_
      simp only [Act.put, List.setIfInBounds_toArray, List.set_cons_zero, List.set_cons_succ]
      refine held_take 8 undef rfl (by kernel_rfl) (by kernel_rfl) (by kernel_rfl) (fun _ _ _ h => h) hHeld (Or.inr ⟨by rfl, rfl⟩) ?_
      simp only [Act.put, List.setIfInBounds_toArray, List.set_cons_zero, List.set_cons_succ]
      refine held_take 9 (.bool true) rfl (by kernel_rfl) (by kernel_rfl) (by kernel_rfl) (fun _ _ _ h => h) hHeld (Or.inl ⟨by rfl, fun w' hSw => by (try dsimp only at hSw); (try subst hSw); go_simp⟩) ?_
      simp only [Act.put, List.setIfInBounds_toArray, List.set_cons_zero, List.set_cons_succ]
      refine held_take 10 (.bool true) rfl (by kernel_rfl) (by kernel_rfl) (by kernel_rfl) (fun _ _ _ h => h) hHeld (Or.inl ⟨by rfl, fun w' hSw => by (try dsimp only at hSw); (try subst hSw); go_simp⟩) ?_
      simp only [Act.put, List.setIfInBounds_toArray, List.set_cons_zero, List.set_cons_succ]
      refine held_take 11 undef rfl (by kernel_rfl) (by kernel_rfl) (by kernel_rfl) (fun _ _ _ h => h) hHeld (Or.inr ⟨by rfl, rfl⟩) ?_
      simp only [Act.put, List.setIfInBounds_toArray, List.set_cons_zero, List.set_cons_succ]
      refine held_take 12 undef rfl (by kernel_rfl) (by kernel_rfl) (by kernel_rfl) (fun _ _ _ h => h) hHeld (Or.inr ⟨by rfl, rfl⟩) ?_
      simp only [Act.put, List.setIfInBounds_toArray, List.set_cons_zero, List.set_cons_succ]
      refine held_take 13 undef rfl (by kernel_rfl) (by kernel_rfl) (by kernel_rfl) (fun _ _ _ h => h) hHeld (Or.inr ⟨by rfl, rfl⟩) ?_
      simp only [Act.put, List.setIfInBounds_toArray, List.set_cons_zero, List.set_cons_succ]
      refine held_take 14 undef rfl (by kernel_rfl) (by kernel_rfl) (by kernel_rfl) (fun _ _ _ h => h) hHeld (Or.inr ⟨by rfl, rfl⟩) ?_
      simp only [Act.put, List.setIfInBounds_toArray, List.set_cons_zero, List.set_cons_succ]
      refine held_take 15 undef rfl (by kernel_rfl) (by kernel_rfl) (by kernel_rfl) (fun _ _ _ h => h) hHeld (Or.inr ⟨by rfl, rfl⟩) ?_
      simp only [Act.put, List.setIfInBounds_toArray, List.set_cons_zero, List.set_cons_succ]
      refine held_take 16 undef rfl (by kernel_rfl) (by kernel_rfl) (by kernel_rfl) (fun _ _ _ h => h) hHeld (Or.inr ⟨by rfl, rfl⟩) ?_
      simp only [Act.put, List.setIfInBounds_toArray, List.set_cons_zero, List.set_cons_succ]
      refine held_take 17 undef rfl (by kernel_rfl) (by kernel_rfl) (by kernel_rfl) (fun _ _ _ h => h) hHeld (Or.inr ⟨by rfl, rfl⟩) ?_
      simp only [Act.put, List.setIfInBounds_toArray, List.set_cons_zero, List.set_cons_succ]
      refine held_take 18 undef rfl (by kernel_rfl) (by kernel_rfl) (by kernel_rfl) (fun _ _ _ h => h) hHeld (Or.inr ⟨by rfl, rfl⟩) ?_
      simp only [Act.put, List.setIfInBounds_toArray, List.set_cons_zero, List.set_cons_succ]
      refine held_take 19 undef rfl (by kernel_rfl) (by kernel_rfl) (by kernel_rfl) (fun _ _ _ h => h) hHeld (Or.inr ⟨by rfl, rfl⟩) ?_
      simp only [Act.put, List.setIfInBounds_toArray, List.set_cons_zero, List.set_cons_succ]
      refine held_take 20 undef rfl (by kernel_rfl) (by kernel_rfl) (by kernel_rfl) (fun _ _ _ h => h) hHeld (Or.inr ⟨by rfl, rfl⟩) ?_
      simp only [Act.put, List.setIfInBounds_toArray, List.set_cons_zero, List.set_cons_succ]
      refine held_take 21 undef rfl (by kernel_rfl) (by kernel_rfl) (by kernel_rfl) (fun _ _ _ h => h) hHeld (Or.inr ⟨by rfl, rfl⟩) ?_
      simp only [Act.put, List.setIfInBounds_toArray, List.set_cons_zero, List.set_cons_succ]
      refine held_take 22 undef rfl (by kernel_rfl) (by kernel_rfl) (by kernel_rfl) (fun _ _ _ h => h) hHeld (Or.inr ⟨by rfl, rfl⟩) ?_
      simp only [Act.put, List.setIfInBounds_toArray, List.set_cons_zero, List.set_cons_succ]
      refine held_take 23 undef rfl (by kernel_rfl) (by kernel_rfl) (by kernel_rfl) (fun _ _ _ h => h) hHeld (Or.inr ⟨by rfl, rfl⟩) ?_
      simp only [Act.put, List.setIfInBounds_toArray, List.set_cons_zero, List.set_cons_succ]
      refine held_take 24 undef rfl (by kernel_rfl) (by kernel_rfl) (by kernel_rfl) (fun _ _ _ h => h) hHeld (Or.inr ⟨by rfl, rfl⟩) ?_
      simp only [Act.put, List.setIfInBounds_toArray, List.set_cons_zero, List.set_cons_succ]
      refine held_take 25 (.bool true) rfl (by kernel_rfl) (by kernel_rfl) (by kernel_rfl) (fun _ _ _ h => h) hHeld (Or.inl ⟨by rfl, fun w' hSw => by (try dsimp only at hSw); (try subst hSw); go_simp⟩) ?_
      simp only [Act.put, List.setIfInBounds_toArray, List.set_cons_zero, List.set_cons_succ]
      refine wpAnyH_done (by kernel_rfl) ?_ _
      clear hHeld
      go_wp2
      go_ret
      exact ⟨Says.no hnt.out, hwa.trans k5⟩
    | true =>
    by_cases hwr : Rw
    rotate_left
    · have hnt := Lib.hid (hb2.out hwr)
      replace hwr := Lib.hid hwr
      refine wp_region_held_drew (S := fun w' => (w'.cell? ⟨w.heap.size, 0, none⟩ = some (.int .u32 sb) ∧ w'.cell? ⟨w.heap.size, 1, none⟩ = some (.int .u32 sn) ∧ w'.cell? ⟨w.heap.size, 2, none⟩ = some (.slice tA t.length tc) ∧ w'.cell? ⟨w.heap.size, 3, none⟩ = some (.slice oA so.length oc) ∧ w'.cell? ⟨w.heap.size, 4, none⟩ = some (.slice lA sl.length lc) ∧ w'.cell? ⟨w.heap.size, 5, none⟩ = some (.slice (some ⟨g, o, none⟩) sw.length wc) ∧ w'.cell? ⟨w.heap.size, 6, none⟩ = some (.slice sA ss.length sc)) ∧ (w'.cell? ⟨ga, 0, none⟩ = some (.int .u32 x0) ∧ w'.cell? ⟨ga, 1, none⟩ = some (.int .u32 x1) ∧ w'.cell? ⟨ga, 2, none⟩ = some (.int .u32 x2) ∧ w'.cell? ⟨ga, 3, none⟩ = some (.int .u32 x3) ∧ w'.cell? ⟨ga, 4, none⟩ = some (.int .i64 x4) ∧ w'.cell? ⟨ga, 5, none⟩ = some (.int .u32 x5) ∧ w'.cell? ⟨ga, 6, none⟩ = some (.int .u32 x6) ∧ w'.cell? ⟨ga, 7, none⟩ = some (.string (strOf x7)))) (by kernel_rfl) (KP.out _ (Only.refl [] _).drew) (fun hHeld => ?_)
      refine held_take 0 (.agg #[.int .u32 sb, .int .u32 sn, .slice tA t.length tc, .slice oA so.length oc, .slice lA sl.length lc, .slice (some ⟨g, o, none⟩) sw.length wc, .slice sA ss.length sc]) rfl (by kernel_rfl) (by kernel_rfl) (by kernel_rfl) (fun _ _ _ h => h) hHeld (Or.inl ⟨by rfl, fun w' hSw => by (try dsimp only at hSw); (try subst hSw); go_simp⟩) ?_
      simp only [Act.put, List.setIfInBounds_toArray, List.set_cons_zero, List.set_cons_succ]
      refine held_take 1 (.pointer (some ⟨ga, 0, none⟩)) rfl (by kernel_rfl) (by kernel_rfl) (by kernel_rfl) (fun _ _ _ h => h) hHeld (Or.inl ⟨by rfl, fun w' hSw => by (try dsimp only at hSw); (try subst hSw); go_simp⟩) ?_
      simp only [Act.put, List.setIfInBounds_toArray, List.set_cons_zero, List.set_cons_succ]
      refine held_take 2 (.int .u32 x0) rfl (by kernel_rfl) (by kernel_rfl) (by kernel_rfl) (fun _ _ _ h => h) hHeld (Or.inl ⟨by rfl, fun w' hSw => by (try dsimp only at hSw); (try subst hSw); go_simp⟩) ?_
      simp only [Act.put, List.setIfInBounds_toArray, List.set_cons_zero, List.set_cons_succ]
      refine held_step 3 rfl (by kernel_rfl) (fun K hK => ?_)
      go_simp
      refine (hF.out _ hwa.drew).mono ?_; rintro e w5 ⟨rfl, k5⟩; replace k5 := k5.undrew
      go_wp2_with fail
      refine hK.out _ _ (KP.out _ k5) (fun hHeld => ?_)
      clear hK K
      refine held_take 4 (.bool false) rfl (by kernel_rfl) (by kernel_rfl) (by kernel_rfl) (fun _ _ _ h => h) hHeld (Or.inl ⟨by rfl, fun w' hSw => by (try dsimp only at hSw); (try subst hSw); go_simp⟩) ?_
      simp only [Act.put, List.setIfInBounds_toArray, List.set_cons_zero, List.set_cons_succ]
      refine held_take 5 (.bool false) rfl (by kernel_rfl) (by kernel_rfl) (by kernel_rfl) (fun _ _ _ h => h) hHeld (Or.inl ⟨by rfl, fun w' hSw => by (try dsimp only at hSw); (try subst hSw); go_simp⟩) ?_
      simp only [Act.put, List.setIfInBounds_toArray, List.set_cons_zero, List.set_cons_succ]
      refine held_take 6 (.agg #[.int .u32 x0, .int .u32 x1, .int .u32 x2, .int .u32 x3, .int .i64 x4, .int .u32 x5, .int .u32 x6, .string (strOf x7)]) rfl (by kernel_rfl) (by kernel_rfl) (by kernel_rfl) (fun _ _ _ h => h) hHeld (Or.inl ⟨by rfl, fun w' hSw => by (try dsimp only at hSw); (try subst hSw); go_simp⟩) ?_
      simp only [Act.put, List.setIfInBounds_toArray, List.set_cons_zero, List.set_cons_succ]
      refine held_step 7 rfl (by kernel_rfl) (fun K hK => ?_)
      go_simp
      refine (hW.out _).mono ?_; rintro e w6 ⟨⟨r, rfl, hr⟩, k6⟩
      obtain rfl : r = false := by { cases r; rfl; exact absurd (hr.1 rfl) hwr.out }
      clear hr; replace k6 := k5.trans k6
      go_wp2_with fail
      refine hK.out _ _ (KP.out _ k6) (fun hHeld => ?_)
      clear hK K
      refine held_take 8 (.bool true) rfl (by kernel_rfl) (by kernel_rfl) (by kernel_rfl) (fun _ _ _ h => h) hHeld (Or.inl ⟨by rfl, fun w' hSw => by (try dsimp only at hSw); (try subst hSw); go_simp⟩) ?_
      simp only [Act.put, List.setIfInBounds_toArray, List.set_cons_zero, List.set_cons_succ]
      refine held_take 9 (.bool true) rfl (by kernel_rfl) (by kernel_rfl) (by kernel_rfl) (fun _ _ _ h => h) hHeld (Or.inl ⟨by rfl, fun w' hSw => by (try dsimp only at hSw); (try subst hSw); go_simp⟩) ?_
      simp only [Act.put, List.setIfInBounds_toArray, List.set_cons_zero, List.set_cons_succ]
      refine held_take 10 (.bool true) rfl (by kernel_rfl) (by kernel_rfl) (by kernel_rfl) (fun _ _ _ h => h) hHeld (Or.inl ⟨by rfl, fun w' hSw => by (try dsimp only at hSw); (try subst hSw); go_simp⟩) ?_
      simp only [Act.put, List.setIfInBounds_toArray, List.set_cons_zero, List.set_cons_succ]
      refine held_take 11 undef rfl (by kernel_rfl) (by kernel_rfl) (by kernel_rfl) (fun _ _ _ h => h) hHeld (Or.inr ⟨by rfl, rfl⟩) ?_
      simp only [Act.put, List.setIfInBounds_toArray, List.set_cons_zero, List.set_cons_succ]
      refine held_take 12 undef rfl (by kernel_rfl) (by kernel_rfl) (by kernel_rfl) (fun _ _ _ h => h) hHeld (Or.inr ⟨by rfl, rfl⟩) ?_
      simp only [Act.put, List.setIfInBounds_toArray, List.set_cons_zero, List.set_cons_succ]
      refine held_take 13 undef rfl (by kernel_rfl) (by kernel_rfl) (by kernel_rfl) (fun _ _ _ h => h) hHeld (Or.inr ⟨by rfl, rfl⟩) ?_
      simp only [Act.put, List.setIfInBounds_toArray, List.set_cons_zero, List.set_cons_succ]
      refine held_take 14 undef rfl (by kernel_rfl) (by kernel_rfl) (by kernel_rfl) (fun _ _ _ h => h) hHeld (Or.inr ⟨by rfl, rfl⟩) ?_
      simp only [Act.put, List.setIfInBounds_toArray, List.set_cons_zero, List.set_cons_succ]
      refine held_take 15 undef rfl (by kernel_rfl) (by kernel_rfl) (by kernel_rfl) (fun _ _ _ h => h) hHeld (Or.inr ⟨by rfl, rfl⟩) ?_
      simp only [Act.put, List.setIfInBounds_toArray, List.set_cons_zero, List.set_cons_succ]
      refine held_take 16 undef rfl (by kernel_rfl) (by kernel_rfl) (by kernel_rfl) (fun _ _ _ h => h) hHeld (Or.inr ⟨by rfl, rfl⟩) ?_
      simp only [Act.put, List.setIfInBounds_toArray, List.set_cons_zero, List.set_cons_succ]
      refine held_take 17 undef rfl (by kernel_rfl) (by kernel_rfl) (by kernel_rfl) (fun _ _ _ h => h) hHeld (Or.inr ⟨by rfl, rfl⟩) ?_
      simp only [Act.put, List.setIfInBounds_toArray, List.set_cons_zero, List.set_cons_succ]
      refine held_take 18 undef rfl (by kernel_rfl) (by kernel_rfl) (by kernel_rfl) (fun _ _ _ h => h) hHeld (Or.inr ⟨by rfl, rfl⟩) ?_
      simp only [Act.put, List.setIfInBounds_toArray, List.set_cons_zero, List.set_cons_succ]
      refine held_take 19 undef rfl (by kernel_rfl) (by kernel_rfl) (by kernel_rfl) (fun _ _ _ h => h) hHeld (Or.inr ⟨by rfl, rfl⟩) ?_
      simp only [Act.put, List.setIfInBounds_toArray, List.set_cons_zero, List.set_cons_succ]
      refine held_take 20 undef rfl (by kernel_rfl) (by kernel_rfl) (by kernel_rfl) (fun _ _ _ h => h) hHeld (Or.inr ⟨by rfl, rfl⟩) ?_
      simp only [Act.put, List.setIfInBounds_toArray, List.set_cons_zero, List.set_cons_succ]
      refine held_take 21 undef rfl (by kernel_rfl) (by kernel_rfl) (by kernel_rfl) (fun _ _ _ h => h) hHeld (Or.inr ⟨by rfl, rfl⟩) ?_
      simp only [Act.put, List.setIfInBounds_toArray, List.set_cons_zero, List.set_cons_succ]
      refine held_take 22 undef rfl (by kernel_rfl) (by kernel_rfl) (by kernel_rfl) (fun _ _ _ h => h) hHeld (Or.inr ⟨by rfl, rfl⟩) ?_
      simp only [Act.put, List.setIfInBounds_toArray, List.set_cons_zero, List.set_cons_succ]
      refine held_take 23 undef rfl (by kernel_rfl) (by kernel_rfl) (by kernel_rfl) (fun _ _ _ h => h) hHeld (Or.inr ⟨by rfl, rfl⟩) ?_
      simp only [Act.put, List.setIfInBounds_toArray, List.set_cons_zero, List.set_cons_succ]
      refine held_take 24 undef rfl (by kernel_rfl) (by kernel_rfl) (by kernel_rfl) (fun _ _ _ h => h) hHeld (Or.inr ⟨by rfl, rfl⟩) ?_
      simp only [Act.put, List.setIfInBounds_toArray, List.set_cons_zero, List.set_cons_succ]
      refine held_take 25 (.bool true) rfl (by kernel_rfl) (by kernel_rfl) (by kernel_rfl) (fun _ _ _ h => h) hHeld (Or.inl ⟨by rfl, fun w' hSw => by (try dsimp only at hSw); (try subst hSw); go_simp⟩) ?_
      simp only [Act.put, List.setIfInBounds_toArray, List.set_cons_zero, List.set_cons_succ]
      refine wpAnyH_done (by kernel_rfl) ?_ _
      clear hHeld
      go_wp2
      go_ret
      exact ⟨Says.no hnt.out, hwa.trans k6⟩
    replace hwr := Lib.hid hwr
    cases n with
    | zero =>
      have hnx := Lib.hid (hs1.out rfl hwr.out (fun j p hj => by cases hj))
      have dz : ((0 : Nat) : Int) = 0 := rfl
      rw [dz]
      refine wp_region_held_drew (S := fun w' => (w'.cell? ⟨w.heap.size, 0, none⟩ = some (.int .u32 sb) ∧ w'.cell? ⟨w.heap.size, 1, none⟩ = some (.int .u32 sn) ∧ w'.cell? ⟨w.heap.size, 2, none⟩ = some (.slice tA t.length tc) ∧ w'.cell? ⟨w.heap.size, 3, none⟩ = some (.slice oA so.length oc) ∧ w'.cell? ⟨w.heap.size, 4, none⟩ = some (.slice lA sl.length lc) ∧ w'.cell? ⟨w.heap.size, 5, none⟩ = some (.slice (some ⟨g, o, none⟩) sw.length wc) ∧ w'.cell? ⟨w.heap.size, 6, none⟩ = some (.slice sA ss.length sc)) ∧ (w'.cell? ⟨ga, 0, none⟩ = some (.int .u32 x0) ∧ w'.cell? ⟨ga, 1, none⟩ = some (.int .u32 x1) ∧ w'.cell? ⟨ga, 2, none⟩ = some (.int .u32 x2) ∧ w'.cell? ⟨ga, 3, none⟩ = some (.int .u32 x3) ∧ w'.cell? ⟨ga, 4, none⟩ = some (.int .i64 x4) ∧ w'.cell? ⟨ga, 5, none⟩ = some (.int .u32 x5) ∧ w'.cell? ⟨ga, 6, none⟩ = some (.int .u32 x6) ∧ w'.cell? ⟨ga, 7, none⟩ = some (.string (strOf x7)))) (by kernel_rfl) (KP.out _ (Only.refl [] _).drew) (fun hHeld => ?_)
      refine held_take 0 (.agg #[.int .u32 sb, .int .u32 sn, .slice tA t.length tc, .slice oA so.length oc, .slice lA sl.length lc, .slice (some ⟨g, o, none⟩) sw.length wc, .slice sA ss.length sc]) rfl (by kernel_rfl) (by kernel_rfl) (by kernel_rfl) (fun _ _ _ h => h) hHeld (Or.inl ⟨by rfl, fun w' hSw => by (try dsimp only at hSw); (try subst hSw); go_simp⟩) ?_
      simp only [Act.put, List.setIfInBounds_toArray, List.set_cons_zero, List.set_cons_succ]
      refine held_take 1 (.pointer (some ⟨ga, 0, none⟩)) rfl (by kernel_rfl) (by kernel_rfl) (by kernel_rfl) (fun _ _ _ h => h) hHeld (Or.inl ⟨by rfl, fun w' hSw => by (try dsimp only at hSw); (try subst hSw); go_simp⟩) ?_
      simp only [Act.put, List.setIfInBounds_toArray, List.set_cons_zero, List.set_cons_succ]
      refine held_take 2 (.int .u32 x0) rfl (by kernel_rfl) (by kernel_rfl) (by kernel_rfl) (fun _ _ _ h => h) hHeld (Or.inl ⟨by rfl, fun w' hSw => by (try dsimp only at hSw); (try subst hSw); go_simp⟩) ?_
      simp only [Act.put, List.setIfInBounds_toArray, List.set_cons_zero, List.set_cons_succ]
      refine held_step 3 rfl (by kernel_rfl) (fun K hK => ?_)
      go_simp
      refine (hF.out _ hwa.drew).mono ?_; rintro e w5 ⟨rfl, k5⟩; replace k5 := k5.undrew
      go_wp2_with fail
      refine hK.out _ _ (KP.out _ k5) (fun hHeld => ?_)
      clear hK K
      refine held_take 4 (.bool false) rfl (by kernel_rfl) (by kernel_rfl) (by kernel_rfl) (fun _ _ _ h => h) hHeld (Or.inl ⟨by rfl, fun w' hSw => by (try dsimp only at hSw); (try subst hSw); go_simp⟩) ?_
      simp only [Act.put, List.setIfInBounds_toArray, List.set_cons_zero, List.set_cons_succ]
      refine held_take 5 (.bool false) rfl (by kernel_rfl) (by kernel_rfl) (by kernel_rfl) (fun _ _ _ h => h) hHeld (Or.inl ⟨by rfl, fun w' hSw => by (try dsimp only at hSw); (try subst hSw); go_simp⟩) ?_
      simp only [Act.put, List.setIfInBounds_toArray, List.set_cons_zero, List.set_cons_succ]
      refine held_take 6 (.agg #[.int .u32 x0, .int .u32 x1, .int .u32 x2, .int .u32 x3, .int .i64 x4, .int .u32 x5, .int .u32 x6, .string (strOf x7)]) rfl (by kernel_rfl) (by kernel_rfl) (by kernel_rfl) (fun _ _ _ h => h) hHeld (Or.inl ⟨by rfl, fun w' hSw => by (try dsimp only at hSw); (try subst hSw); go_simp⟩) ?_
      simp only [Act.put, List.setIfInBounds_toArray, List.set_cons_zero, List.set_cons_succ]
      refine held_step 7 rfl (by kernel_rfl) (fun K hK => ?_)
      go_simp
      refine (hW.out _).mono ?_; rintro e w6 ⟨⟨r, rfl, hr⟩, k6⟩
      obtain rfl := hr.2 hwr.out
      clear hr; replace k6 := k5.trans k6
      go_wp2_with fail
      refine hK.out _ _ (KP.out _ k6) (fun hHeld => ?_)
      clear hK K
      refine held_take 8 (.bool false) rfl (by kernel_rfl) (by kernel_rfl) (by kernel_rfl) (fun _ _ _ h => h) hHeld (Or.inl ⟨by rfl, fun w' hSw => by (try dsimp only at hSw); (try subst hSw); go_simp⟩) ?_
      simp only [Act.put, List.setIfInBounds_toArray, List.set_cons_zero, List.set_cons_succ]
      refine held_take 9 (.bool false) rfl (by kernel_rfl) (by kernel_rfl) (by kernel_rfl) (fun _ _ _ h => h) hHeld (Or.inl ⟨by rfl, fun w' hSw => by (try dsimp only at hSw); (try subst hSw); go_simp⟩) ?_
      simp only [Act.put, List.setIfInBounds_toArray, List.set_cons_zero, List.set_cons_succ]
      refine held_take 10 (.bool false) rfl (by kernel_rfl) (by kernel_rfl) (by kernel_rfl) (fun _ _ _ h => h) hHeld (Or.inl ⟨by rfl, fun w' hSw => by (try dsimp only at hSw); (try subst hSw); go_simp⟩) ?_
      simp only [Act.put, List.setIfInBounds_toArray, List.set_cons_zero, List.set_cons_succ]
      refine held_take 11 (.int .i64 0) rfl (by kernel_rfl) (by kernel_rfl) (by kernel_rfl) (fun _ _ _ h => h) hHeld (Or.inl ⟨by rfl, fun w' hSw => by (try dsimp only at hSw); (try subst hSw); go_simp⟩) ?_
      simp only [Act.put, List.setIfInBounds_toArray, List.set_cons_zero, List.set_cons_succ]
      refine held_take 12 (.bool false) rfl (by kernel_rfl) (by kernel_rfl) (by kernel_rfl) (fun _ _ _ h => h) hHeld (Or.inl ⟨by rfl, fun w' hSw => by (try dsimp only at hSw); (try subst hSw); go_simp⟩) ?_
      simp only [Act.put, List.setIfInBounds_toArray, List.set_cons_zero, List.set_cons_succ]
      refine held_take 13 (.bool false) rfl (by kernel_rfl) (by kernel_rfl) (by kernel_rfl) (fun _ _ _ h => h) hHeld (Or.inl ⟨by rfl, fun w' hSw => by (try dsimp only at hSw); (try subst hSw); go_simp⟩) ?_
      simp only [Act.put, List.setIfInBounds_toArray, List.set_cons_zero, List.set_cons_succ]
      refine held_take 14 undef rfl (by kernel_rfl) (by kernel_rfl) (by kernel_rfl) (fun _ _ _ h => h) hHeld (Or.inr ⟨by rfl, rfl⟩) ?_
      simp only [Act.put, List.setIfInBounds_toArray, List.set_cons_zero, List.set_cons_succ]
      refine held_take 15 undef rfl (by kernel_rfl) (by kernel_rfl) (by kernel_rfl) (fun _ _ _ h => h) hHeld (Or.inr ⟨by rfl, rfl⟩) ?_
      simp only [Act.put, List.setIfInBounds_toArray, List.set_cons_zero, List.set_cons_succ]
      refine held_take 16 undef rfl (by kernel_rfl) (by kernel_rfl) (by kernel_rfl) (fun _ _ _ h => h) hHeld (Or.inr ⟨by rfl, rfl⟩) ?_
      simp only [Act.put, List.setIfInBounds_toArray, List.set_cons_zero, List.set_cons_succ]
      refine held_take 17 undef rfl (by kernel_rfl) (by kernel_rfl) (by kernel_rfl) (fun _ _ _ h => h) hHeld (Or.inr ⟨by rfl, rfl⟩) ?_
      simp only [Act.put, List.setIfInBounds_toArray, List.set_cons_zero, List.set_cons_succ]
      refine held_take 18 undef rfl (by kernel_rfl) (by kernel_rfl) (by kernel_rfl) (fun _ _ _ h => h) hHeld (Or.inr ⟨by rfl, rfl⟩) ?_
      simp only [Act.put, List.setIfInBounds_toArray, List.set_cons_zero, List.set_cons_succ]
      refine held_take 19 undef rfl (by kernel_rfl) (by kernel_rfl) (by kernel_rfl) (fun _ _ _ h => h) hHeld (Or.inr ⟨by rfl, rfl⟩) ?_
      simp only [Act.put, List.setIfInBounds_toArray, List.set_cons_zero, List.set_cons_succ]
      refine held_take 20 undef rfl (by kernel_rfl) (by kernel_rfl) (by kernel_rfl) (fun _ _ _ h => h) hHeld (Or.inr ⟨by rfl, rfl⟩) ?_
      simp only [Act.put, List.setIfInBounds_toArray, List.set_cons_zero, List.set_cons_succ]
      refine held_take 21 undef rfl (by kernel_rfl) (by kernel_rfl) (by kernel_rfl) (fun _ _ _ h => h) hHeld (Or.inr ⟨by rfl, rfl⟩) ?_
      simp only [Act.put, List.setIfInBounds_toArray, List.set_cons_zero, List.set_cons_succ]
      refine held_take 22 undef rfl (by kernel_rfl) (by kernel_rfl) (by kernel_rfl) (fun _ _ _ h => h) hHeld (Or.inr ⟨by rfl, rfl⟩) ?_
      simp only [Act.put, List.setIfInBounds_toArray, List.set_cons_zero, List.set_cons_succ]
      refine held_take 23 undef rfl (by kernel_rfl) (by kernel_rfl) (by kernel_rfl) (fun _ _ _ h => h) hHeld (Or.inr ⟨by rfl, rfl⟩) ?_
      simp only [Act.put, List.setIfInBounds_toArray, List.set_cons_zero, List.set_cons_succ]
      refine held_take 24 (.bool false) rfl (by kernel_rfl) (by kernel_rfl) (by kernel_rfl) (fun _ _ _ h => h) hHeld (Or.inl ⟨by rfl, fun w' hSw => by (try dsimp only at hSw); (try subst hSw); go_simp⟩) ?_
      simp only [Act.put, List.setIfInBounds_toArray, List.set_cons_zero, List.set_cons_succ]
      refine held_take 25 (.bool false) rfl (by kernel_rfl) (by kernel_rfl) (by kernel_rfl) (fun _ _ _ h => h) hHeld (Or.inl ⟨by rfl, fun w' hSw => by (try dsimp only at hSw); (try subst hSw); go_simp⟩) ?_
      simp only [Act.put, List.setIfInBounds_toArray, List.set_cons_zero, List.set_cons_succ]
      refine wpAnyH_done (by kernel_rfl) ?_ _
      clear hHeld
      go_wp2
      go_roundw
      case rel => exact ⟨1, by omega, rfl, hnx, hka.trans k6⟩
      case measure => simp [intOf]; omega
    | succ j =>
      obtain ⟨p, hp, hcp⟩ := hprev.out j rfl
      have hcast : ((j + 1 : Nat) : Int) = (j : Int) + 1 := by omega
      rw [hcast]
      have hj1 : ((j : Int) + 1).toNat = j + 1 := by omega
      have hj2 : (j : Int) + 1 < sw.length := by omega
      have hj3 : (j : Int) < sw.length := by omega
      have hj4 : (0 : Int) < (j : Int) + 1 := by omega
      have hj6 : IntKind.i64.wrap (j : Int) = (j : Int) := by simp only [IntKind.wrap, IntKind.bits, IntKind.signed]; simp; omega
      have hj5 : decide ((0 : Int) < (j : Int) + 1) = true := decide_eq_true hj4
      have hb3' := hb3.out j p rfl hp
      have hs3 : p.file < x0 → I (j + 1 + 1) := fun e => hs1.out rfl hwr.out (by
        intro j' p' hj hp'
        obtain rfl : j = j' := by omega
        rw [hp] at hp'
        injection hp' with hp'
        subst hp'
        exact e)
      generalize p.file = pf at *
      replace hp := Lib.hid hp
      have KQ : Hid (∀ w', Only [] wa w' → ((w'.cell? ⟨w.heap.size, 0, none⟩ = some (.int .u32 sb) ∧ w'.cell? ⟨w.heap.size, 1, none⟩ = some (.int .u32 sn) ∧ w'.cell? ⟨w.heap.size, 2, none⟩ = some (.slice tA t.length tc) ∧ w'.cell? ⟨w.heap.size, 3, none⟩ = some (.slice oA so.length oc) ∧ w'.cell? ⟨w.heap.size, 4, none⟩ = some (.slice lA sl.length lc) ∧ w'.cell? ⟨w.heap.size, 5, none⟩ = some (.slice (some ⟨g, o, none⟩) sw.length wc) ∧ w'.cell? ⟨w.heap.size, 6, none⟩ = some (.slice sA ss.length sc)) ∧ (w'.cell? ⟨ga, 0, none⟩ = some (.int .u32 x0) ∧ w'.cell? ⟨ga, 1, none⟩ = some (.int .u32 x1) ∧ w'.cell? ⟨ga, 2, none⟩ = some (.int .u32 x2) ∧ w'.cell? ⟨ga, 3, none⟩ = some (.int .u32 x3) ∧ w'.cell? ⟨ga, 4, none⟩ = some (.int .i64 x4) ∧ w'.cell? ⟨ga, 5, none⟩ = some (.int .u32 x5) ∧ w'.cell? ⟨ga, 6, none⟩ = some (.int .u32 x6) ∧ w'.cell? ⟨ga, 7, none⟩ = some (.string (strOf x7)))) ∧ w'.cell? ⟨g, o + j * 8, none⟩ = some (.int .u32 pf)) := fun W kW => ⟨KP.out W kW, hcp W (hwa.trans kW)⟩
      replace hs3 := Lib.hid hs3
      replace hb3' := Lib.hid hb3'
      clear hcp
      by_cases hlt2 : pf < x0
      · have hnx := Lib.hid (hs3.out hlt2)
        have d9 : decide (x0 ≤ pf) = false := decide_eq_false (by omega)
        have d8 : ¬ x0 ≤ pf := by omega
        refine wp_region_held_drew (S := fun w' => ((w'.cell? ⟨w.heap.size, 0, none⟩ = some (.int .u32 sb) ∧ w'.cell? ⟨w.heap.size, 1, none⟩ = some (.int .u32 sn) ∧ w'.cell? ⟨w.heap.size, 2, none⟩ = some (.slice tA t.length tc) ∧ w'.cell? ⟨w.heap.size, 3, none⟩ = some (.slice oA so.length oc) ∧ w'.cell? ⟨w.heap.size, 4, none⟩ = some (.slice lA sl.length lc) ∧ w'.cell? ⟨w.heap.size, 5, none⟩ = some (.slice (some ⟨g, o, none⟩) sw.length wc) ∧ w'.cell? ⟨w.heap.size, 6, none⟩ = some (.slice sA ss.length sc)) ∧ (w'.cell? ⟨ga, 0, none⟩ = some (.int .u32 x0) ∧ w'.cell? ⟨ga, 1, none⟩ = some (.int .u32 x1) ∧ w'.cell? ⟨ga, 2, none⟩ = some (.int .u32 x2) ∧ w'.cell? ⟨ga, 3, none⟩ = some (.int .u32 x3) ∧ w'.cell? ⟨ga, 4, none⟩ = some (.int .i64 x4) ∧ w'.cell? ⟨ga, 5, none⟩ = some (.int .u32 x5) ∧ w'.cell? ⟨ga, 6, none⟩ = some (.int .u32 x6) ∧ w'.cell? ⟨ga, 7, none⟩ = some (.string (strOf x7)))) ∧ w'.cell? ⟨g, o + j * 8, none⟩ = some (.int .u32 pf)) (by kernel_rfl) (KQ.out _ (Only.refl [] _).drew) (fun hHeld => ?_)
        refine held_take 0 (.agg #[.int .u32 sb, .int .u32 sn, .slice tA t.length tc, .slice oA so.length oc, .slice lA sl.length lc, .slice (some ⟨g, o, none⟩) sw.length wc, .slice sA ss.length sc]) rfl (by kernel_rfl) (by kernel_rfl) (by kernel_rfl) (fun _ _ _ h => h) hHeld (Or.inl ⟨by rfl, fun w' hSw => by (try dsimp only at hSw); (try subst hSw); go_simp⟩) ?_
        simp only [Act.put, List.setIfInBounds_toArray, List.set_cons_zero, List.set_cons_succ]
        refine held_take 1 (.pointer (some ⟨ga, 0, none⟩)) rfl (by kernel_rfl) (by kernel_rfl) (by kernel_rfl) (fun _ _ _ h => h) hHeld (Or.inl ⟨by rfl, fun w' hSw => by (try dsimp only at hSw); (try subst hSw); go_simp⟩) ?_
        simp only [Act.put, List.setIfInBounds_toArray, List.set_cons_zero, List.set_cons_succ]
        refine held_take 2 (.int .u32 x0) rfl (by kernel_rfl) (by kernel_rfl) (by kernel_rfl) (fun _ _ _ h => h) hHeld (Or.inl ⟨by rfl, fun w' hSw => by (try dsimp only at hSw); (try subst hSw); go_simp⟩) ?_
        simp only [Act.put, List.setIfInBounds_toArray, List.set_cons_zero, List.set_cons_succ]
        refine held_step 3 rfl (by kernel_rfl) (fun K hK => ?_)
        go_simp
        refine (hF.out _ hwa.drew).mono ?_; rintro e w5 ⟨rfl, k5⟩; replace k5 := k5.undrew
        go_wp2_with fail
        refine hK.out _ _ (KQ.out _ k5) (fun hHeld => ?_)
        clear hK K
        refine held_take 4 (.bool false) rfl (by kernel_rfl) (by kernel_rfl) (by kernel_rfl) (fun _ _ _ h => h) hHeld (Or.inl ⟨by rfl, fun w' hSw => by (try dsimp only at hSw); (try subst hSw); go_simp⟩) ?_
        simp only [Act.put, List.setIfInBounds_toArray, List.set_cons_zero, List.set_cons_succ]
        refine held_take 5 (.bool false) rfl (by kernel_rfl) (by kernel_rfl) (by kernel_rfl) (fun _ _ _ h => h) hHeld (Or.inl ⟨by rfl, fun w' hSw => by (try dsimp only at hSw); (try subst hSw); go_simp⟩) ?_
        simp only [Act.put, List.setIfInBounds_toArray, List.set_cons_zero, List.set_cons_succ]
        refine held_take 6 (.agg #[.int .u32 x0, .int .u32 x1, .int .u32 x2, .int .u32 x3, .int .i64 x4, .int .u32 x5, .int .u32 x6, .string (strOf x7)]) rfl (by kernel_rfl) (by kernel_rfl) (by kernel_rfl) (fun _ _ _ h => h) hHeld (Or.inl ⟨by rfl, fun w' hSw => by (try dsimp only at hSw); (try subst hSw); go_simp⟩) ?_
        simp only [Act.put, List.setIfInBounds_toArray, List.set_cons_zero, List.set_cons_succ]
        refine held_step 7 rfl (by kernel_rfl) (fun K hK => ?_)
        go_simp
        refine (hW.out _).mono ?_; rintro e w6 ⟨⟨r, rfl, hr⟩, k6⟩
        obtain rfl := hr.2 hwr.out
        clear hr; replace k6 := k5.trans k6
        go_wp2_with fail
        refine hK.out _ _ (KQ.out _ k6) (fun hHeld => ?_)
        clear hK K
        refine held_take 8 (.bool false) rfl (by kernel_rfl) (by kernel_rfl) (by kernel_rfl) (fun _ _ _ h => h) hHeld (Or.inl ⟨by rfl, fun w' hSw => by (try dsimp only at hSw); (try subst hSw); go_simp⟩) ?_
        simp only [Act.put, List.setIfInBounds_toArray, List.set_cons_zero, List.set_cons_succ]
        refine held_take 9 (.bool false) rfl (by kernel_rfl) (by kernel_rfl) (by kernel_rfl) (fun _ _ _ h => h) hHeld (Or.inl ⟨by rfl, fun w' hSw => by (try dsimp only at hSw); (try subst hSw); go_simp⟩) ?_
        simp only [Act.put, List.setIfInBounds_toArray, List.set_cons_zero, List.set_cons_succ]
        refine held_take 10 (.bool false) rfl (by kernel_rfl) (by kernel_rfl) (by kernel_rfl) (fun _ _ _ h => h) hHeld (Or.inl ⟨by rfl, fun w' hSw => by (try dsimp only at hSw); (try subst hSw); go_simp⟩) ?_
        simp only [Act.put, List.setIfInBounds_toArray, List.set_cons_zero, List.set_cons_succ]
        refine held_take 11 (.int .i64 ((j : Int) + 1)) rfl (by kernel_rfl) (by kernel_rfl) (by kernel_rfl) (fun _ _ _ h => h) hHeld (Or.inl ⟨by rfl, fun w' hSw => by (try dsimp only at hSw); (try subst hSw); go_simp⟩) ?_
        simp only [Act.put, List.setIfInBounds_toArray, List.set_cons_zero, List.set_cons_succ]
        refine held_take 12 (.bool true) rfl (by kernel_rfl) (by kernel_rfl) (by kernel_rfl) (fun _ _ _ h => h) hHeld (Or.inl ⟨by rfl, fun w' hSw => by (try dsimp only at hSw); (try subst hSw); go_simp⟩) ?_
        simp only [Act.put, List.setIfInBounds_toArray, List.set_cons_zero, List.set_cons_succ]
        refine held_take 13 (.bool true) rfl (by kernel_rfl) (by kernel_rfl) (by kernel_rfl) (fun _ _ _ h => h) hHeld (Or.inl ⟨by rfl, fun w' hSw => by (try dsimp only at hSw); (try subst hSw); go_simp⟩) ?_
        simp only [Act.put, List.setIfInBounds_toArray, List.set_cons_zero, List.set_cons_succ]
        refine held_take 14 (.pointer (some ⟨w.heap.size, 5, none⟩)) rfl (by kernel_rfl) (by kernel_rfl) (by kernel_rfl) (fun _ _ _ h => h) hHeld (Or.inl ⟨by rfl, fun w' hSw => by (try dsimp only at hSw); (try subst hSw); go_simp⟩) ?_
        simp only [Act.put, List.setIfInBounds_toArray, List.set_cons_zero, List.set_cons_succ]
        refine held_take 15 (.slice (some ⟨g, o, none⟩) sw.length wc) rfl (by kernel_rfl) (by kernel_rfl) (by kernel_rfl) (fun _ _ _ h => h) hHeld (Or.inl ⟨by rfl, fun w' hSw => by (try dsimp only at hSw); (try subst hSw); go_simp⟩) ?_
        simp only [Act.put, List.setIfInBounds_toArray, List.set_cons_zero, List.set_cons_succ]
        refine held_take 16 (.int .i64 ((j : Int) + 1)) rfl (by kernel_rfl) (by kernel_rfl) (by kernel_rfl) (fun _ _ _ h => h) hHeld (Or.inl ⟨by rfl, fun w' hSw => by (try dsimp only at hSw); (try subst hSw); go_simp⟩) ?_
        simp only [Act.put, List.setIfInBounds_toArray, List.set_cons_zero, List.set_cons_succ]
        refine held_take 17 (.int .i64 j) rfl (by kernel_rfl) (by kernel_rfl) (by kernel_rfl) (fun _ _ _ h => h) hHeld (Or.inl ⟨by rfl, fun w' hSw => by (try dsimp only at hSw); (try subst hSw); go_simp⟩) ?_
        simp only [Act.put, List.setIfInBounds_toArray, List.set_cons_zero, List.set_cons_succ]
        refine held_take 18 (.pointer (some ⟨g, o + j * 8, none⟩)) rfl (by kernel_rfl) (by kernel_rfl) (by kernel_rfl) (fun _ _ _ h => h) hHeld (Or.inl ⟨by rfl, fun w' hSw => by (try dsimp only at hSw); (try subst hSw); go_simp⟩) ?_
        simp only [Act.put, List.setIfInBounds_toArray, List.set_cons_zero, List.set_cons_succ]
        refine held_take 19 (.pointer (some ⟨g, o + j * 8, none⟩)) rfl (by kernel_rfl) (by kernel_rfl) (by kernel_rfl) (fun _ _ _ h => h) hHeld (Or.inl ⟨by rfl, fun w' hSw => by (try dsimp only at hSw); (try subst hSw); go_simp⟩) ?_
        simp only [Act.put, List.setIfInBounds_toArray, List.set_cons_zero, List.set_cons_succ]
        refine held_take 20 (.int .u32 pf) rfl (by kernel_rfl) (by kernel_rfl) (by kernel_rfl) (fun _ _ _ h => h) hHeld (Or.inl ⟨by rfl, fun w' hSw => by (try dsimp only at hSw); (try subst hSw); go_simp⟩) ?_
        simp only [Act.put, List.setIfInBounds_toArray, List.set_cons_zero, List.set_cons_succ]
        refine held_take 21 (.pointer (some ⟨ga, 0, none⟩)) rfl (by kernel_rfl) (by kernel_rfl) (by kernel_rfl) (fun _ _ _ h => h) hHeld (Or.inl ⟨by rfl, fun w' hSw => by (try dsimp only at hSw); (try subst hSw); go_simp⟩) ?_
        simp only [Act.put, List.setIfInBounds_toArray, List.set_cons_zero, List.set_cons_succ]
        refine held_take 22 (.int .u32 x0) rfl (by kernel_rfl) (by kernel_rfl) (by kernel_rfl) (fun _ _ _ h => h) hHeld (Or.inl ⟨by rfl, fun w' hSw => by (try dsimp only at hSw); (try subst hSw); go_simp⟩) ?_
        simp only [Act.put, List.setIfInBounds_toArray, List.set_cons_zero, List.set_cons_succ]
        refine held_take 23 (.bool false) rfl (by kernel_rfl) (by kernel_rfl) (by kernel_rfl) (fun _ _ _ h => h) hHeld (Or.inl ⟨by rfl, fun w' hSw => by (try dsimp only at hSw); (try subst hSw); go_simp⟩) ?_
        simp only [Act.put, List.setIfInBounds_toArray, List.set_cons_zero, List.set_cons_succ]
        refine held_take 24 (.bool false) rfl (by kernel_rfl) (by kernel_rfl) (by kernel_rfl) (fun _ _ _ h => h) hHeld (Or.inl ⟨by rfl, fun w' hSw => by (try dsimp only at hSw); (try subst hSw); go_simp⟩) ?_
        simp only [Act.put, List.setIfInBounds_toArray, List.set_cons_zero, List.set_cons_succ]
        refine held_take 25 (.bool false) rfl (by kernel_rfl) (by kernel_rfl) (by kernel_rfl) (fun _ _ _ h => h) hHeld (Or.inl ⟨by rfl, fun w' hSw => by (try dsimp only at hSw); (try subst hSw); go_simp⟩) ?_
        simp only [Act.put, List.setIfInBounds_toArray, List.set_cons_zero, List.set_cons_succ]
        refine wpAnyH_done (by kernel_rfl) ?_ _
        clear hHeld
        go_wp2
        go_roundw
        case rel => exact ⟨j + 1 + 1, by omega, by go_num, hnx, hka.trans k6⟩
        case measure => simp [intOf]; omega
      · have hnt := Lib.hid (hb3'.out (by omega))
        have d9 : decide (x0 ≤ pf) = true := decide_eq_true (by omega)
        have d8 : x0 ≤ pf := by omega
        refine wp_region_held_drew (S := fun w' => ((w'.cell? ⟨w.heap.size, 0, none⟩ = some (.int .u32 sb) ∧ w'.cell? ⟨w.heap.size, 1, none⟩ = some (.int .u32 sn) ∧ w'.cell? ⟨w.heap.size, 2, none⟩ = some (.slice tA t.length tc) ∧ w'.cell? ⟨w.heap.size, 3, none⟩ = some (.slice oA so.length oc) ∧ w'.cell? ⟨w.heap.size, 4, none⟩ = some (.slice lA sl.length lc) ∧ w'.cell? ⟨w.heap.size, 5, none⟩ = some (.slice (some ⟨g, o, none⟩) sw.length wc) ∧ w'.cell? ⟨w.heap.size, 6, none⟩ = some (.slice sA ss.length sc)) ∧ (w'.cell? ⟨ga, 0, none⟩ = some (.int .u32 x0) ∧ w'.cell? ⟨ga, 1, none⟩ = some (.int .u32 x1) ∧ w'.cell? ⟨ga, 2, none⟩ = some (.int .u32 x2) ∧ w'.cell? ⟨ga, 3, none⟩ = some (.int .u32 x3) ∧ w'.cell? ⟨ga, 4, none⟩ = some (.int .i64 x4) ∧ w'.cell? ⟨ga, 5, none⟩ = some (.int .u32 x5) ∧ w'.cell? ⟨ga, 6, none⟩ = some (.int .u32 x6) ∧ w'.cell? ⟨ga, 7, none⟩ = some (.string (strOf x7)))) ∧ w'.cell? ⟨g, o + j * 8, none⟩ = some (.int .u32 pf)) (by kernel_rfl) (KQ.out _ (Only.refl [] _).drew) (fun hHeld => ?_)
        refine held_take 0 (.agg #[.int .u32 sb, .int .u32 sn, .slice tA t.length tc, .slice oA so.length oc, .slice lA sl.length lc, .slice (some ⟨g, o, none⟩) sw.length wc, .slice sA ss.length sc]) rfl (by kernel_rfl) (by kernel_rfl) (by kernel_rfl) (fun _ _ _ h => h) hHeld (Or.inl ⟨by rfl, fun w' hSw => by (try dsimp only at hSw); (try subst hSw); go_simp⟩) ?_
        simp only [Act.put, List.setIfInBounds_toArray, List.set_cons_zero, List.set_cons_succ]
        refine held_take 1 (.pointer (some ⟨ga, 0, none⟩)) rfl (by kernel_rfl) (by kernel_rfl) (by kernel_rfl) (fun _ _ _ h => h) hHeld (Or.inl ⟨by rfl, fun w' hSw => by (try dsimp only at hSw); (try subst hSw); go_simp⟩) ?_
        simp only [Act.put, List.setIfInBounds_toArray, List.set_cons_zero, List.set_cons_succ]
        refine held_take 2 (.int .u32 x0) rfl (by kernel_rfl) (by kernel_rfl) (by kernel_rfl) (fun _ _ _ h => h) hHeld (Or.inl ⟨by rfl, fun w' hSw => by (try dsimp only at hSw); (try subst hSw); go_simp⟩) ?_
        simp only [Act.put, List.setIfInBounds_toArray, List.set_cons_zero, List.set_cons_succ]
        refine held_step 3 rfl (by kernel_rfl) (fun K hK => ?_)
        go_simp
        refine (hF.out _ hwa.drew).mono ?_; rintro e w5 ⟨rfl, k5⟩; replace k5 := k5.undrew
        go_wp2_with fail
        refine hK.out _ _ (KQ.out _ k5) (fun hHeld => ?_)
        clear hK K
        refine held_take 4 (.bool false) rfl (by kernel_rfl) (by kernel_rfl) (by kernel_rfl) (fun _ _ _ h => h) hHeld (Or.inl ⟨by rfl, fun w' hSw => by (try dsimp only at hSw); (try subst hSw); go_simp⟩) ?_
        simp only [Act.put, List.setIfInBounds_toArray, List.set_cons_zero, List.set_cons_succ]
        refine held_take 5 (.bool false) rfl (by kernel_rfl) (by kernel_rfl) (by kernel_rfl) (fun _ _ _ h => h) hHeld (Or.inl ⟨by rfl, fun w' hSw => by (try dsimp only at hSw); (try subst hSw); go_simp⟩) ?_
        simp only [Act.put, List.setIfInBounds_toArray, List.set_cons_zero, List.set_cons_succ]
        refine held_take 6 (.agg #[.int .u32 x0, .int .u32 x1, .int .u32 x2, .int .u32 x3, .int .i64 x4, .int .u32 x5, .int .u32 x6, .string (strOf x7)]) rfl (by kernel_rfl) (by kernel_rfl) (by kernel_rfl) (fun _ _ _ h => h) hHeld (Or.inl ⟨by rfl, fun w' hSw => by (try dsimp only at hSw); (try subst hSw); go_simp⟩) ?_
        simp only [Act.put, List.setIfInBounds_toArray, List.set_cons_zero, List.set_cons_succ]
        refine held_step 7 rfl (by kernel_rfl) (fun K hK => ?_)
        go_simp
        refine (hW.out _).mono ?_; rintro e w6 ⟨⟨r, rfl, hr⟩, k6⟩
        obtain rfl := hr.2 hwr.out
        clear hr; replace k6 := k5.trans k6
        go_wp2_with fail
        refine hK.out _ _ (KQ.out _ k6) (fun hHeld => ?_)
        clear hK K
        refine held_take 8 (.bool false) rfl (by kernel_rfl) (by kernel_rfl) (by kernel_rfl) (fun _ _ _ h => h) hHeld (Or.inl ⟨by rfl, fun w' hSw => by (try dsimp only at hSw); (try subst hSw); go_simp⟩) ?_
        simp only [Act.put, List.setIfInBounds_toArray, List.set_cons_zero, List.set_cons_succ]
        refine held_take 9 (.bool false) rfl (by kernel_rfl) (by kernel_rfl) (by kernel_rfl) (fun _ _ _ h => h) hHeld (Or.inl ⟨by rfl, fun w' hSw => by (try dsimp only at hSw); (try subst hSw); go_simp⟩) ?_
        simp only [Act.put, List.setIfInBounds_toArray, List.set_cons_zero, List.set_cons_succ]
        refine held_take 10 (.bool false) rfl (by kernel_rfl) (by kernel_rfl) (by kernel_rfl) (fun _ _ _ h => h) hHeld (Or.inl ⟨by rfl, fun w' hSw => by (try dsimp only at hSw); (try subst hSw); go_simp⟩) ?_
        simp only [Act.put, List.setIfInBounds_toArray, List.set_cons_zero, List.set_cons_succ]
        refine held_take 11 (.int .i64 ((j : Int) + 1)) rfl (by kernel_rfl) (by kernel_rfl) (by kernel_rfl) (fun _ _ _ h => h) hHeld (Or.inl ⟨by rfl, fun w' hSw => by (try dsimp only at hSw); (try subst hSw); go_simp⟩) ?_
        simp only [Act.put, List.setIfInBounds_toArray, List.set_cons_zero, List.set_cons_succ]
        refine held_take 12 (.bool true) rfl (by kernel_rfl) (by kernel_rfl) (by kernel_rfl) (fun _ _ _ h => h) hHeld (Or.inl ⟨by rfl, fun w' hSw => by (try dsimp only at hSw); (try subst hSw); go_simp⟩) ?_
        simp only [Act.put, List.setIfInBounds_toArray, List.set_cons_zero, List.set_cons_succ]
        refine held_take 13 (.bool true) rfl (by kernel_rfl) (by kernel_rfl) (by kernel_rfl) (fun _ _ _ h => h) hHeld (Or.inl ⟨by rfl, fun w' hSw => by (try dsimp only at hSw); (try subst hSw); go_simp⟩) ?_
        simp only [Act.put, List.setIfInBounds_toArray, List.set_cons_zero, List.set_cons_succ]
        refine held_take 14 (.pointer (some ⟨w.heap.size, 5, none⟩)) rfl (by kernel_rfl) (by kernel_rfl) (by kernel_rfl) (fun _ _ _ h => h) hHeld (Or.inl ⟨by rfl, fun w' hSw => by (try dsimp only at hSw); (try subst hSw); go_simp⟩) ?_
        simp only [Act.put, List.setIfInBounds_toArray, List.set_cons_zero, List.set_cons_succ]
        refine held_take 15 (.slice (some ⟨g, o, none⟩) sw.length wc) rfl (by kernel_rfl) (by kernel_rfl) (by kernel_rfl) (fun _ _ _ h => h) hHeld (Or.inl ⟨by rfl, fun w' hSw => by (try dsimp only at hSw); (try subst hSw); go_simp⟩) ?_
        simp only [Act.put, List.setIfInBounds_toArray, List.set_cons_zero, List.set_cons_succ]
        refine held_take 16 (.int .i64 ((j : Int) + 1)) rfl (by kernel_rfl) (by kernel_rfl) (by kernel_rfl) (fun _ _ _ h => h) hHeld (Or.inl ⟨by rfl, fun w' hSw => by (try dsimp only at hSw); (try subst hSw); go_simp⟩) ?_
        simp only [Act.put, List.setIfInBounds_toArray, List.set_cons_zero, List.set_cons_succ]
        refine held_take 17 (.int .i64 j) rfl (by kernel_rfl) (by kernel_rfl) (by kernel_rfl) (fun _ _ _ h => h) hHeld (Or.inl ⟨by rfl, fun w' hSw => by (try dsimp only at hSw); (try subst hSw); go_simp⟩) ?_
        simp only [Act.put, List.setIfInBounds_toArray, List.set_cons_zero, List.set_cons_succ]
        refine held_take 18 (.pointer (some ⟨g, o + j * 8, none⟩)) rfl (by kernel_rfl) (by kernel_rfl) (by kernel_rfl) (fun _ _ _ h => h) hHeld (Or.inl ⟨by rfl, fun w' hSw => by (try dsimp only at hSw); (try subst hSw); go_simp⟩) ?_
        simp only [Act.put, List.setIfInBounds_toArray, List.set_cons_zero, List.set_cons_succ]
        refine held_take 19 (.pointer (some ⟨g, o + j * 8, none⟩)) rfl (by kernel_rfl) (by kernel_rfl) (by kernel_rfl) (fun _ _ _ h => h) hHeld (Or.inl ⟨by rfl, fun w' hSw => by (try dsimp only at hSw); (try subst hSw); go_simp⟩) ?_
        simp only [Act.put, List.setIfInBounds_toArray, List.set_cons_zero, List.set_cons_succ]
        refine held_take 20 (.int .u32 pf) rfl (by kernel_rfl) (by kernel_rfl) (by kernel_rfl) (fun _ _ _ h => h) hHeld (Or.inl ⟨by rfl, fun w' hSw => by (try dsimp only at hSw); (try subst hSw); go_simp⟩) ?_
        simp only [Act.put, List.setIfInBounds_toArray, List.set_cons_zero, List.set_cons_succ]
        refine held_take 21 (.pointer (some ⟨ga, 0, none⟩)) rfl (by kernel_rfl) (by kernel_rfl) (by kernel_rfl) (fun _ _ _ h => h) hHeld (Or.inl ⟨by rfl, fun w' hSw => by (try dsimp only at hSw); (try subst hSw); go_simp⟩) ?_
        simp only [Act.put, List.setIfInBounds_toArray, List.set_cons_zero, List.set_cons_succ]
        refine held_take 22 (.int .u32 x0) rfl (by kernel_rfl) (by kernel_rfl) (by kernel_rfl) (fun _ _ _ h => h) hHeld (Or.inl ⟨by rfl, fun w' hSw => by (try dsimp only at hSw); (try subst hSw); go_simp⟩) ?_
        simp only [Act.put, List.setIfInBounds_toArray, List.set_cons_zero, List.set_cons_succ]
        refine held_take 23 (.bool true) rfl (by kernel_rfl) (by kernel_rfl) (by kernel_rfl) (fun _ _ _ h => h) hHeld (Or.inl ⟨by rfl, fun w' hSw => by (try dsimp only at hSw); (try subst hSw); go_simp⟩) ?_
        simp only [Act.put, List.setIfInBounds_toArray, List.set_cons_zero, List.set_cons_succ]
        refine held_take 24 (.bool true) rfl (by kernel_rfl) (by kernel_rfl) (by kernel_rfl) (fun _ _ _ h => h) hHeld (Or.inl ⟨by rfl, fun w' hSw => by (try dsimp only at hSw); (try subst hSw); go_simp⟩) ?_
        simp only [Act.put, List.setIfInBounds_toArray, List.set_cons_zero, List.set_cons_succ]
        refine held_take 25 (.bool true) rfl (by kernel_rfl) (by kernel_rfl) (by kernel_rfl) (fun _ _ _ h => h) hHeld (Or.inl ⟨by rfl, fun w' hSw => by (try dsimp only at hSw); (try subst hSw); go_simp⟩) ?_
        simp only [Act.put, List.setIfInBounds_toArray, List.set_cons_zero, List.set_cons_succ]
        refine wpAnyH_done (by kernel_rfl) ?_ _
        clear hHeld
        go_wp2
        go_ret
        exact ⟨Says.no hnt.out, hwa.trans k6⟩

end Go.Proofs.YtalkhhjfplahkaaGreat
