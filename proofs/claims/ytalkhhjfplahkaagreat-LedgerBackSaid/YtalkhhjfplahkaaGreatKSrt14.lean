/- Whether a state's seats may be. -/
import Derived.Test.YtalkhhjfplahkaaGreatKLrt14
namespace Go.Proofs.YtalkhhjfplahkaaGreat
open Go.RowKit
set_option linter.unusedVariables false

def zSea : Sea := ⟨0, zPk⟩
section
variable {ops : Array Oper} {rest : List Oper} {o : Oper} {a : Act} {w : World} {Q : Exit → Act → World → Prop}
theorem wpList_store_sea (p q : Sea) (hw : Region.wanted o (yielded ops a.tmps) = true) (x y : Operand) (ho : o.op = .store 56 x y) (g : Nat) (hx : a.eval x = .pointer (some ⟨g, 0, none⟩)) (hy : a.eval y = seaV p) (hb : Blk w g 56 (seaA q))
    (h : ∀ w', Blk w' g 56 (seaA p) → Only [g] w w' → wpList Tryz.prog ops Q rest (a.put o.dst undef) w') : wpList Tryz.prog ops Q (o :: rest) a w :=
  wpList_store_blk hw 56 x y ho g _ _ hx hy hb size_sea rfl (by simp [Value.oneCell', seaA]) h
end
theorem seas_at {w : World} {g o : Nat} {l : List Sea} (h : ElsAt seaE 21 w g o l) {i : Nat} (hi : i < l.length) : w.cell? ⟨g, o + i * 21, none⟩ = some (.int .u32 l[i].client) := by simpa using h i hi 0 _ rfl
structure SeaInv (l : List Sea) (n : Nat) : Prop where
  each : ∀ w ∈ l.take n, SeatR w
  rise : (l.take n).Pairwise (fun a b => a.client < b.client)
theorem SeaInv.zero (l : List Sea) : SeaInv l 0 := ⟨by simp, by simp⟩
theorem SeaInv.succ {l : List Sea} {n : Nat} {x : Sea} (h : SeaInv l n) (hx : l[n]? = some x) (h2 : SeatR x) (h3 : ∀ j p, n = j + 1 → l[j]? = some p → p.client < x.client) : SeaInv l (n + 1) :=
  ⟨all_take h.each hx h2, rise_take (f := (·.client)) h.rise hx h3⟩

set_option maxRecDepth 100000 in
set_option maxHeartbeats 8000000 in
theorem seatsRight_any (w : World) (s : Sta) (p : Sp) (h : StM w s p) : Calls Tryz.prog 34 #[staV s p] w fun e w' => Says (SeatsR s) e ∧ Only [] w w' := by
  have k0 : Only [] w (w.alloc (.cells #[.int .u32 s.boot, .int .u32 s.next, .slice p.tA s.tree.length p.tc, .slice p.oA s.opens.length p.oc, .slice p.lA s.locks.length p.lc, .slice p.wA s.works.length p.wc, .slice p.sA s.seats.length p.sc] 29)) := (Only.refl [] w).alloc _
  have bx := Sx.new w s p
  have hW0 := fun x (hx : x ∈ s.seats) W => seatRight_any W x (h.fit.seats x hx)
  have hb := h.seats
  have hl := h.sl
  have hz := SeaInv.zero s.seats
  have hsu := fun n x => SeaInv.succ (l := s.seats) (n := n) (x := x)
  have hdo : ∀ n, SeaInv s.seats n → s.seats.length ≤ n → SeatsR s := fun n hi hn => by
    obtain ⟨a, b⟩ := hi
    rw [List.take_of_length_le hn] at a b
    exact ⟨a, b⟩
  have b2 : ∀ x ∈ s.seats, ¬ SeatR x → ¬ SeatsR s := fun x hx e r => e (r.each x hx)
  have b3 : ∀ j (x q : Sea), s.seats[j]? = some q → s.seats[j + 1]? = some x → ¬ q.client < x.client → ¬ SeatsR s := fun j x q hq hx hn r => rise_bad (f := (·.client)) hq hx hn r.rise
  unfold staV
  generalize SeatsR s = R at *
  obtain ⟨sb, sn, t, so, sl, sw, ss⟩ := s
  obtain ⟨tA, tc, oA, oc, lA, lc, lv, wA, wc, sA, sc⟩ := p
  simp only at k0 bx hW0 hb hl hz hsu hdo b2 b3 ⊢
  have KB := fun W kW => bx.at (S := []) (w' := W) kW (by simp)
  simp only at KB
  obtain ⟨I, hI⟩ : ∃ I, I = SeaInv ss := ⟨_, rfl⟩
  rw [← hI] at hz
  simp only [← hI] at hsu hdo
  replace hI := Lib.hid hI
  replace hW0 := Lib.hid hW0
  replace hz := Lib.hid hz
  replace hsu := Lib.hid hsu
  replace hdo := Lib.hid hdo
  replace b2 := Lib.hid b2
  replace b3 := Lib.hid b3
  obtain ⟨c0, c1, c2, c3, c4, c5, c6⟩ := KB _ (Only.refl _ _)
  replace KB := Lib.hid KB
  clear h bx
  have hlI : (ss.length : Int) ≤ 1048576 := by omega
  go_enter Tryz.func34, Tryz.ntmps34
  go_wp2_with fail
  clear c0 c1 c2 c3 c4 c5 c6
  go_loopw [8] (fun i wr => ∃ n : Nat, n ≤ ss.length ∧ i = .int .i64 n ∧ Hid (I n) ∧ Only [] (w.alloc (.cells #[.int .u32 sb, .int .u32 sn, .slice tA t.length tc, .slice oA so.length oc, .slice lA sl.length lc, .slice wA sw.length wc, .slice sA ss.length sc] 29)) wr) (fun i _ => ss.length - (intOf i).toNat)
  case atStart => exact ⟨0, Nat.zero_le _, rfl, hz, Only.refl _ _⟩
  case round =>
    obtain ⟨n, hn, rfl, hi, hk⟩ := hrel
    have hkw := k0.trans hk
    by_cases hlt : n < ss.length
    rotate_left
    · have hy := Lib.hid (hdo.out n hi.out (by omega))
      go_wp2
      go_ret
      exact ⟨Says.yes hy.out, hkw⟩
    obtain ⟨g, o, rfl, hg, hat⟩ := hb.get hlt
    have hat' := hat.kept hkw (by simp)
    have hrg := ElsAt.range hat' hlt
    have hx : ss[n]? = some ss[n] := List.getElem?_eq_getElem hlt
    have hxm : ss[n] ∈ ss := List.getElem_mem hlt
    have hprev : ∀ j, n = j + 1 → ∃ p : Sea, ss[j]? = some p ∧ ∀ W, Only [] w W → W.cell? ⟨g, o + j * 21, none⟩ = some (.int .u32 p.client) := fun j hj => by
      have hj' : j < ss.length := by omega
      exact ⟨ss[j], List.getElem?_eq_getElem hj', fun W kW => seas_at (hat.kept kW (by simp)) hj'⟩
    generalize ss[n] = x at *
    have hW := hW0.out x hxm
    have hb2 := b2.out x hxm
    have hb3 := fun j p (hj : n = j + 1) (hp : ss[j]? = some p) => b3.out j x p hp (by rw [← hj]; exact hx)
    have hs1 := hsu.out n x hi.out hx
    obtain ⟨Rw, hRw⟩ : ∃ Rw, Rw = SeatR x := ⟨_, rfl⟩
    rw [← hRw] at hW hb2 hs1
    have hsp : 0 < ss.length := by omega
    have bz := Blk.new wr 56 (seaA zSea)
    have hsz : w.heap.size < wr.heap.size := by
      have := hk.size
      simp at this
      omega
    have KA : Hid (∀ V, Blk V wr.heap.size 56 (seaA x) → Only [wr.heap.size] (wr.alloc (.cells (seaA zSea) 56)) V → Only [] (w.alloc (.cells #[.int .u32 sb, .int .u32 sn, .slice tA t.length tc, .slice oA so.length oc, .slice lA sl.length lc, .slice wA sw.length wc, .slice (some ⟨g, o, none⟩) ss.length sc] 29)) V) := fun V _ h2 => (hk.alloc _).beyond h2 hk.size
    replace hrg := Lib.hid hrg
    replace bz := Lib.hid bz
    replace hW := Lib.hid hW
    replace hx := Lib.hid hx
    replace hxm := Lib.hid hxm
    replace hb2 := Lib.hid hb2
    replace hb3 := Lib.hid hb3
    replace hs1 := Lib.hid hs1
    replace hprev := Lib.hid hprev
    replace hRw := Lib.hid hRw
    replace hk := Lib.hid hk
    clear hat hat' hb
    go_wp2_with (first | refine wpList_load_at (by rfl) 56 _ rfl g (o + n * 21) rfl (seaE x) _ hrg.out Tryz.underlying56 rfl size_sea ?_ | (refine wpList_store_sea x zSea rfl _ _ rfl wr.heap.size rfl rfl bz.out ?_; intro wa hbx kbx))
    have hka := KA.out wa hbx kbx
    have hwa := k0.trans hka
    replace hbx := Lib.hid hbx
    have KP : Hid (∀ w', Only [] wa w' → w'.cell? ⟨w.heap.size, 6, none⟩ = some (.slice (some ⟨g, o, none⟩) ss.length sc) ∧ w'.cell? ⟨wr.heap.size, 0, none⟩ = some (.int .u32 x.client)) := fun W kW => by
      obtain ⟨a0, a1, a2, a3, a4, a5, a6⟩ := KB.out W (hka.trans kW)
      exact ⟨a6, (Blk.kept hbx.out kW (by simp)).cell 0⟩
    clear kbx KA
    generalize wr.heap.size = ga at *
    have hcl : ∃ xc, x.client = xc := ⟨_, rfl⟩
    obtain ⟨xc, hxc⟩ := hcl
    rw [hxc] at KP
    by_cases hwr : Rw
    rotate_left
    · have hnt := Lib.hid (hb2.out hwr)
      replace hwr := Lib.hid hwr
      refine wp_region_held_drew (S := fun w' => w'.cell? ⟨w.heap.size, 6, none⟩ = some (.slice (some ⟨g, o, none⟩) ss.length sc) ∧ w'.cell? ⟨ga, 0, none⟩ = some (.int .u32 xc)) (by kernel_rfl) (KP.out _ (Only.refl [] _).drew) (fun hHeld => ?_)
      refine held_step 0 rfl (by kernel_rfl) (fun K hK => ?_)
      rw [if_pos (show Region.wanted _ _ = true from rfl)]
      refine wp_load_mid 56 _ rfl ga 0 rfl (seaA x).toList _ (Blk.range9 hbx.out) Tryz.underlying56 rfl size_sea ?_
      refine hK.out _ _ (KP.out _ (Only.refl [] _).drew) (fun hHeld => ?_)
      clear hK K
      refine held_step 1 rfl (by kernel_rfl) (fun K hK => ?_)
      go_simp
      refine (hW.out _).mono ?_; rintro e w6 ⟨⟨r, rfl, hr⟩, k6⟩
      obtain rfl : r = false := by { cases r; rfl; exact absurd (hr.1 rfl) hwr.out }
      clear hr; replace k6 := k6.undrew
      go_wp2_with fail
      refine hK.out _ _ (KP.out _ k6) (fun hHeld => ?_)
      clear hK K
      refine held_take 2 (.bool true) rfl (by kernel_rfl) (by kernel_rfl) (by kernel_rfl) (fun _ _ _ h => h) hHeld (Or.inl ⟨by rfl, fun w' hSw => by (try dsimp only at hSw); (try subst hSw); go_simp⟩) ?_
      simp only [Act.put, List.setIfInBounds_toArray, List.set_cons_zero, List.set_cons_succ]
      refine held_take 3 (.bool true) rfl (by kernel_rfl) (by kernel_rfl) (by kernel_rfl) (fun _ _ _ h => h) hHeld (Or.inl ⟨by rfl, fun w' hSw => by (try dsimp only at hSw); (try subst hSw); go_simp⟩) ?_
      simp only [Act.put, List.setIfInBounds_toArray, List.set_cons_zero, List.set_cons_succ]
      refine held_take 4 undef rfl (by kernel_rfl) (by kernel_rfl) (by kernel_rfl) (fun _ _ _ h => h) hHeld (Or.inr ⟨by rfl, rfl⟩) ?_
      simp only [Act.put, List.setIfInBounds_toArray, List.set_cons_zero, List.set_cons_succ]
      refine held_take 5 undef rfl (by kernel_rfl) (by kernel_rfl) (by kernel_rfl) (fun _ _ _ h => h) hHeld (Or.inr ⟨by rfl, rfl⟩) ?_
      simp only [Act.put, List.setIfInBounds_toArray, List.set_cons_zero, List.set_cons_succ]
      refine held_take 6 undef rfl (by kernel_rfl) (by kernel_rfl) (by kernel_rfl) (fun _ _ _ h => h) hHeld (Or.inr ⟨by rfl, rfl⟩) ?_
      simp only [Act.put, List.setIfInBounds_toArray, List.set_cons_zero, List.set_cons_succ]
      refine held_take 7 undef rfl (by kernel_rfl) (by kernel_rfl) (by kernel_rfl) (fun _ _ _ h => h) hHeld (Or.inr ⟨by rfl, rfl⟩) ?_
      simp only [Act.put, List.setIfInBounds_toArray, List.set_cons_zero, List.set_cons_succ]
      refine held_take 8 undef rfl (by kernel_rfl) (by kernel_rfl) (by kernel_rfl) (fun _ _ _ h => h) hHeld (Or.inr ⟨by rfl, rfl⟩) ?_
      simp only [Act.put, List.setIfInBounds_toArray, List.set_cons_zero, List.set_cons_succ]
      refine held_take 9 undef rfl (by kernel_rfl) (by kernel_rfl) (by kernel_rfl) (fun _ _ _ h => h) hHeld (Or.inr ⟨by rfl, rfl⟩) ?_
      simp only [Act.put, List.setIfInBounds_toArray, List.set_cons_zero, List.set_cons_succ]
      refine held_take 10 undef rfl (by kernel_rfl) (by kernel_rfl) (by kernel_rfl) (fun _ _ _ h => h) hHeld (Or.inr ⟨by rfl, rfl⟩) ?_
      simp only [Act.put, List.setIfInBounds_toArray, List.set_cons_zero, List.set_cons_succ]
      refine held_take 11 undef rfl (by kernel_rfl) (by kernel_rfl) (by kernel_rfl) (fun _ _ _ h => h) hHeld (Or.inr ⟨by rfl, rfl⟩) ?_
      simp only [Act.put, List.setIfInBounds_toArray, List.set_cons_zero, List.set_cons_succ]
      refine held_take 12 undef rfl (by kernel_rfl) (by kernel_rfl) (by kernel_rfl) (fun _ _ _ h => h) hHeld (Or.inr ⟨by rfl, rfl⟩) ?_
      simp only [Act.put, List.setIfInBounds_toArray, List.set_cons_zero, List.set_cons_succ]
      refine held_take 13 undef rfl (by kernel_rfl) (by kernel_rfl) (by kernel_rfl) (fun _ _ _ h => h) hHeld (Or.inr ⟨by rfl, rfl⟩) ?_
      simp only [Act.put, List.setIfInBounds_toArray, List.set_cons_zero, List.set_cons_succ]
      refine held_take 14 undef rfl (by kernel_rfl) (by kernel_rfl) (by kernel_rfl) (fun _ _ _ h => h) hHeld (Or.inr ⟨by rfl, rfl⟩) ?_
      simp only [Act.put, List.setIfInBounds_toArray, List.set_cons_zero, List.set_cons_succ]
      refine held_take 15 undef rfl (by kernel_rfl) (by kernel_rfl) (by kernel_rfl) (fun _ _ _ h => h) hHeld (Or.inr ⟨by rfl, rfl⟩) ?_
      simp only [Act.put, List.setIfInBounds_toArray, List.set_cons_zero, List.set_cons_succ]
      refine held_take 16 undef rfl (by kernel_rfl) (by kernel_rfl) (by kernel_rfl) (fun _ _ _ h => h) hHeld (Or.inr ⟨by rfl, rfl⟩) ?_
      simp only [Act.put, List.setIfInBounds_toArray, List.set_cons_zero, List.set_cons_succ]
      refine held_take 17 undef rfl (by kernel_rfl) (by kernel_rfl) (by kernel_rfl) (fun _ _ _ h => h) hHeld (Or.inr ⟨by rfl, rfl⟩) ?_
      simp only [Act.put, List.setIfInBounds_toArray, List.set_cons_zero, List.set_cons_succ]
      refine held_take 18 (.bool true) rfl (by kernel_rfl) (by kernel_rfl) (by kernel_rfl) (fun _ _ _ h => h) hHeld (Or.inl ⟨by rfl, fun w' hSw => by (try dsimp only at hSw); (try subst hSw); go_simp⟩) ?_
      simp only [Act.put, List.setIfInBounds_toArray, List.set_cons_zero, List.set_cons_succ]
      refine wpAnyH_done (by kernel_rfl) ?_ _
      clear hHeld
      go_wp2
      go_ret
      exact ⟨Says.no hnt.out, hwa.trans k6⟩
    replace hwr := Lib.hid hwr
    cases n with
    | zero =>
      have hnx := Lib.hid (hs1.out hwr.out (fun j p hj => by cases hj))
      have dz : ((0 : Nat) : Int) = 0 := rfl
      rw [dz]
      refine wp_region_held_drew (S := fun w' => w'.cell? ⟨w.heap.size, 6, none⟩ = some (.slice (some ⟨g, o, none⟩) ss.length sc) ∧ w'.cell? ⟨ga, 0, none⟩ = some (.int .u32 xc)) (by kernel_rfl) (KP.out _ (Only.refl [] _).drew) (fun hHeld => ?_)
      refine held_step 0 rfl (by kernel_rfl) (fun K hK => ?_)
      rw [if_pos (show Region.wanted _ _ = true from rfl)]
      refine wp_load_mid 56 _ rfl ga 0 rfl (seaA x).toList _ (Blk.range9 hbx.out) Tryz.underlying56 rfl size_sea ?_
      refine hK.out _ _ (KP.out _ (Only.refl [] _).drew) (fun hHeld => ?_)
      clear hK K
      refine held_step 1 rfl (by kernel_rfl) (fun K hK => ?_)
      go_simp
      refine (hW.out _).mono ?_; rintro e w6 ⟨⟨r, rfl, hr⟩, k6⟩
      obtain rfl := hr.2 hwr.out
      clear hr; replace k6 := k6.undrew
      go_wp2_with fail
      refine hK.out _ _ (KP.out _ k6) (fun hHeld => ?_)
      clear hK K
      refine held_take 2 (.bool false) rfl (by kernel_rfl) (by kernel_rfl) (by kernel_rfl) (fun _ _ _ h => h) hHeld (Or.inl ⟨by rfl, fun w' hSw => by (try dsimp only at hSw); (try subst hSw); go_simp⟩) ?_
      simp only [Act.put, List.setIfInBounds_toArray, List.set_cons_zero, List.set_cons_succ]
      refine held_take 3 (.bool false) rfl (by kernel_rfl) (by kernel_rfl) (by kernel_rfl) (fun _ _ _ h => h) hHeld (Or.inl ⟨by rfl, fun w' hSw => by (try dsimp only at hSw); (try subst hSw); go_simp⟩) ?_
      simp only [Act.put, List.setIfInBounds_toArray, List.set_cons_zero, List.set_cons_succ]
      refine held_take 4 (.int .i64 0) rfl (by kernel_rfl) (by kernel_rfl) (by kernel_rfl) (fun _ _ _ h => h) hHeld (Or.inl ⟨by rfl, fun w' hSw => by (try dsimp only at hSw); (try subst hSw); go_simp⟩) ?_
      simp only [Act.put, List.setIfInBounds_toArray, List.set_cons_zero, List.set_cons_succ]
      refine held_take 5 (.bool false) rfl (by kernel_rfl) (by kernel_rfl) (by kernel_rfl) (fun _ _ _ h => h) hHeld (Or.inl ⟨by rfl, fun w' hSw => by (try dsimp only at hSw); (try subst hSw); go_simp⟩) ?_
      simp only [Act.put, List.setIfInBounds_toArray, List.set_cons_zero, List.set_cons_succ]
      refine held_take 6 (.bool false) rfl (by kernel_rfl) (by kernel_rfl) (by kernel_rfl) (fun _ _ _ h => h) hHeld (Or.inl ⟨by rfl, fun w' hSw => by (try dsimp only at hSw); (try subst hSw); go_simp⟩) ?_
      simp only [Act.put, List.setIfInBounds_toArray, List.set_cons_zero, List.set_cons_succ]
      refine held_take 7 undef rfl (by kernel_rfl) (by kernel_rfl) (by kernel_rfl) (fun _ _ _ h => h) hHeld (Or.inr ⟨by rfl, rfl⟩) ?_
      simp only [Act.put, List.setIfInBounds_toArray, List.set_cons_zero, List.set_cons_succ]
      refine held_take 8 undef rfl (by kernel_rfl) (by kernel_rfl) (by kernel_rfl) (fun _ _ _ h => h) hHeld (Or.inr ⟨by rfl, rfl⟩) ?_
      simp only [Act.put, List.setIfInBounds_toArray, List.set_cons_zero, List.set_cons_succ]
      refine held_take 9 undef rfl (by kernel_rfl) (by kernel_rfl) (by kernel_rfl) (fun _ _ _ h => h) hHeld (Or.inr ⟨by rfl, rfl⟩) ?_
      simp only [Act.put, List.setIfInBounds_toArray, List.set_cons_zero, List.set_cons_succ]
      refine held_take 10 undef rfl (by kernel_rfl) (by kernel_rfl) (by kernel_rfl) (fun _ _ _ h => h) hHeld (Or.inr ⟨by rfl, rfl⟩) ?_
      simp only [Act.put, List.setIfInBounds_toArray, List.set_cons_zero, List.set_cons_succ]
      refine held_take 11 undef rfl (by kernel_rfl) (by kernel_rfl) (by kernel_rfl) (fun _ _ _ h => h) hHeld (Or.inr ⟨by rfl, rfl⟩) ?_
      simp only [Act.put, List.setIfInBounds_toArray, List.set_cons_zero, List.set_cons_succ]
      refine held_take 12 undef rfl (by kernel_rfl) (by kernel_rfl) (by kernel_rfl) (fun _ _ _ h => h) hHeld (Or.inr ⟨by rfl, rfl⟩) ?_
      simp only [Act.put, List.setIfInBounds_toArray, List.set_cons_zero, List.set_cons_succ]
      refine held_take 13 undef rfl (by kernel_rfl) (by kernel_rfl) (by kernel_rfl) (fun _ _ _ h => h) hHeld (Or.inr ⟨by rfl, rfl⟩) ?_
      simp only [Act.put, List.setIfInBounds_toArray, List.set_cons_zero, List.set_cons_succ]
      refine held_take 14 undef rfl (by kernel_rfl) (by kernel_rfl) (by kernel_rfl) (fun _ _ _ h => h) hHeld (Or.inr ⟨by rfl, rfl⟩) ?_
      simp only [Act.put, List.setIfInBounds_toArray, List.set_cons_zero, List.set_cons_succ]
      refine held_take 15 undef rfl (by kernel_rfl) (by kernel_rfl) (by kernel_rfl) (fun _ _ _ h => h) hHeld (Or.inr ⟨by rfl, rfl⟩) ?_
      simp only [Act.put, List.setIfInBounds_toArray, List.set_cons_zero, List.set_cons_succ]
      refine held_take 16 undef rfl (by kernel_rfl) (by kernel_rfl) (by kernel_rfl) (fun _ _ _ h => h) hHeld (Or.inr ⟨by rfl, rfl⟩) ?_
      simp only [Act.put, List.setIfInBounds_toArray, List.set_cons_zero, List.set_cons_succ]
      refine held_take 17 (.bool false) rfl (by kernel_rfl) (by kernel_rfl) (by kernel_rfl) (fun _ _ _ h => h) hHeld (Or.inl ⟨by rfl, fun w' hSw => by (try dsimp only at hSw); (try subst hSw); go_simp⟩) ?_
      simp only [Act.put, List.setIfInBounds_toArray, List.set_cons_zero, List.set_cons_succ]
      refine held_take 18 (.bool false) rfl (by kernel_rfl) (by kernel_rfl) (by kernel_rfl) (fun _ _ _ h => h) hHeld (Or.inl ⟨by rfl, fun w' hSw => by (try dsimp only at hSw); (try subst hSw); go_simp⟩) ?_
      simp only [Act.put, List.setIfInBounds_toArray, List.set_cons_zero, List.set_cons_succ]
      refine wpAnyH_done (by kernel_rfl) ?_ _
      clear hHeld
      go_wp2
      go_roundw
      case rel => exact ⟨1, by omega, rfl, hnx, hka.trans k6⟩
      case measure => simp [intOf]; omega
    | succ j =>
      obtain ⟨p, hp, hcp⟩ := hprev.out j rfl
      have hcast : ((j + 1 : Nat) : Int) = (j : Int) + 1 := by omega
      rw [hcast]
      have hj1 : ((j : Int) + 1).toNat = j + 1 := by omega
      have hj2 : (j : Int) + 1 < ss.length := by omega
      have hj3 : (j : Int) < ss.length := by omega
      have hj4 : (0 : Int) < (j : Int) + 1 := by omega
      have hj6 : IntKind.i64.wrap (j : Int) = (j : Int) := by simp only [IntKind.wrap, IntKind.bits, IntKind.signed]; simp; omega
      have hj5 : decide ((0 : Int) < (j : Int) + 1) = true := decide_eq_true hj4
      have hb3' := hb3.out j p rfl hp
      rw [hxc] at hb3'
      have hs3 : p.client < xc → I (j + 1 + 1) := fun e => hs1.out hwr.out (by
        intro j' p' hj hp'
        obtain rfl : j = j' := by omega
        rw [hp] at hp'
        injection hp' with hp'
        subst hp'
        rw [hxc]
        exact e)
      generalize p.client = pf at *
      replace hp := Lib.hid hp
      have KQ : Hid (∀ w', Only [] wa w' → w'.cell? ⟨w.heap.size, 6, none⟩ = some (.slice (some ⟨g, o, none⟩) ss.length sc) ∧ w'.cell? ⟨ga, 0, none⟩ = some (.int .u32 xc) ∧ w'.cell? ⟨g, o + j * 21, none⟩ = some (.int .u32 pf)) := fun W kW => ⟨(KP.out W kW).1, (KP.out W kW).2, hcp W (hwa.trans kW)⟩
      replace hs3 := Lib.hid hs3
      replace hb3' := Lib.hid hb3'
      clear hcp
      by_cases hlt2 : pf < xc
      · have hnx := Lib.hid (hs3.out hlt2)
        have d9 : decide (xc ≤ pf) = false := decide_eq_false (by omega)
        have d8 : ¬ xc ≤ pf := by omega
        refine wp_region_held_drew (S := fun w' => w'.cell? ⟨w.heap.size, 6, none⟩ = some (.slice (some ⟨g, o, none⟩) ss.length sc) ∧ w'.cell? ⟨ga, 0, none⟩ = some (.int .u32 xc) ∧ w'.cell? ⟨g, o + j * 21, none⟩ = some (.int .u32 pf)) (by kernel_rfl) (KQ.out _ (Only.refl [] _).drew) (fun hHeld => ?_)
        refine held_step 0 rfl (by kernel_rfl) (fun K hK => ?_)
        rw [if_pos (show Region.wanted _ _ = true from rfl)]
        refine wp_load_mid 56 _ rfl ga 0 rfl (seaA x).toList _ (Blk.range9 hbx.out) Tryz.underlying56 rfl size_sea ?_
        refine hK.out _ _ (KQ.out _ (Only.refl [] _).drew) (fun hHeld => ?_)
        clear hK K
        refine held_step 1 rfl (by kernel_rfl) (fun K hK => ?_)
        go_simp
        refine (hW.out _).mono ?_; rintro e w6 ⟨⟨r, rfl, hr⟩, k6⟩
        obtain rfl := hr.2 hwr.out
        clear hr; replace k6 := k6.undrew
        go_wp2_with fail
        refine hK.out _ _ (KQ.out _ k6) (fun hHeld => ?_)
        clear hK K
        refine held_take 2 (.bool false) rfl (by kernel_rfl) (by kernel_rfl) (by kernel_rfl) (fun _ _ _ h => h) hHeld (Or.inl ⟨by rfl, fun w' hSw => by (try dsimp only at hSw); (try subst hSw); go_simp⟩) ?_
        simp only [Act.put, List.setIfInBounds_toArray, List.set_cons_zero, List.set_cons_succ]
        refine held_take 3 (.bool false) rfl (by kernel_rfl) (by kernel_rfl) (by kernel_rfl) (fun _ _ _ h => h) hHeld (Or.inl ⟨by rfl, fun w' hSw => by (try dsimp only at hSw); (try subst hSw); go_simp⟩) ?_
        simp only [Act.put, List.setIfInBounds_toArray, List.set_cons_zero, List.set_cons_succ]
        refine held_take 4 (.int .i64 ((j : Int) + 1)) rfl (by kernel_rfl) (by kernel_rfl) (by kernel_rfl) (fun _ _ _ h => h) hHeld (Or.inl ⟨by rfl, fun w' hSw => by (try dsimp only at hSw); (try subst hSw); go_simp⟩) ?_
        simp only [Act.put, List.setIfInBounds_toArray, List.set_cons_zero, List.set_cons_succ]
        refine held_take 5 (.bool true) rfl (by kernel_rfl) (by kernel_rfl) (by kernel_rfl) (fun _ _ _ h => h) hHeld (Or.inl ⟨by rfl, fun w' hSw => by (try dsimp only at hSw); (try subst hSw); go_simp⟩) ?_
        simp only [Act.put, List.setIfInBounds_toArray, List.set_cons_zero, List.set_cons_succ]
        refine held_take 6 (.bool true) rfl (by kernel_rfl) (by kernel_rfl) (by kernel_rfl) (fun _ _ _ h => h) hHeld (Or.inl ⟨by rfl, fun w' hSw => by (try dsimp only at hSw); (try subst hSw); go_simp⟩) ?_
        simp only [Act.put, List.setIfInBounds_toArray, List.set_cons_zero, List.set_cons_succ]
        refine held_take 7 (.pointer (some ⟨w.heap.size, 6, none⟩)) rfl (by kernel_rfl) (by kernel_rfl) (by kernel_rfl) (fun _ _ _ h => h) hHeld (Or.inl ⟨by rfl, fun w' hSw => by (try dsimp only at hSw); (try subst hSw); go_simp⟩) ?_
        simp only [Act.put, List.setIfInBounds_toArray, List.set_cons_zero, List.set_cons_succ]
        refine held_take 8 (.slice (some ⟨g, o, none⟩) ss.length sc) rfl (by kernel_rfl) (by kernel_rfl) (by kernel_rfl) (fun _ _ _ h => h) hHeld (Or.inl ⟨by rfl, fun w' hSw => by (try dsimp only at hSw); (try subst hSw); go_simp⟩) ?_
        simp only [Act.put, List.setIfInBounds_toArray, List.set_cons_zero, List.set_cons_succ]
        refine held_take 9 (.int .i64 ((j : Int) + 1)) rfl (by kernel_rfl) (by kernel_rfl) (by kernel_rfl) (fun _ _ _ h => h) hHeld (Or.inl ⟨by rfl, fun w' hSw => by (try dsimp only at hSw); (try subst hSw); go_simp⟩) ?_
        simp only [Act.put, List.setIfInBounds_toArray, List.set_cons_zero, List.set_cons_succ]
        refine held_take 10 (.int .i64 j) rfl (by kernel_rfl) (by kernel_rfl) (by kernel_rfl) (fun _ _ _ h => h) hHeld (Or.inl ⟨by rfl, fun w' hSw => by (try dsimp only at hSw); (try subst hSw); go_simp⟩) ?_
        simp only [Act.put, List.setIfInBounds_toArray, List.set_cons_zero, List.set_cons_succ]
        refine held_take 11 (.pointer (some ⟨g, o + j * 21, none⟩)) rfl (by kernel_rfl) (by kernel_rfl) (by kernel_rfl) (fun _ _ _ h => h) hHeld (Or.inl ⟨by rfl, fun w' hSw => by (try dsimp only at hSw); (try subst hSw); go_simp⟩) ?_
        simp only [Act.put, List.setIfInBounds_toArray, List.set_cons_zero, List.set_cons_succ]
        refine held_take 12 (.pointer (some ⟨g, o + j * 21, none⟩)) rfl (by kernel_rfl) (by kernel_rfl) (by kernel_rfl) (fun _ _ _ h => h) hHeld (Or.inl ⟨by rfl, fun w' hSw => by (try dsimp only at hSw); (try subst hSw); go_simp⟩) ?_
        simp only [Act.put, List.setIfInBounds_toArray, List.set_cons_zero, List.set_cons_succ]
        refine held_take 13 (.int .u32 pf) rfl (by kernel_rfl) (by kernel_rfl) (by kernel_rfl) (fun _ _ _ h => h) hHeld (Or.inl ⟨by rfl, fun w' hSw => by (try dsimp only at hSw); (try subst hSw); go_simp⟩) ?_
        simp only [Act.put, List.setIfInBounds_toArray, List.set_cons_zero, List.set_cons_succ]
        refine held_take 14 (.pointer (some ⟨ga, 0, none⟩)) rfl (by kernel_rfl) (by kernel_rfl) (by kernel_rfl) (fun _ _ _ h => h) hHeld (Or.inl ⟨by rfl, fun w' hSw => by (try dsimp only at hSw); (try subst hSw); go_simp⟩) ?_
        simp only [Act.put, List.setIfInBounds_toArray, List.set_cons_zero, List.set_cons_succ]
        refine held_take 15 (.int .u32 xc) rfl (by kernel_rfl) (by kernel_rfl) (by kernel_rfl) (fun _ _ _ h => h) hHeld (Or.inl ⟨by rfl, fun w' hSw => by (try dsimp only at hSw); (try subst hSw); go_simp⟩) ?_
        simp only [Act.put, List.setIfInBounds_toArray, List.set_cons_zero, List.set_cons_succ]
        refine held_take 16 (.bool false) rfl (by kernel_rfl) (by kernel_rfl) (by kernel_rfl) (fun _ _ _ h => h) hHeld (Or.inl ⟨by rfl, fun w' hSw => by (try dsimp only at hSw); (try subst hSw); go_simp⟩) ?_
        simp only [Act.put, List.setIfInBounds_toArray, List.set_cons_zero, List.set_cons_succ]
        refine held_take 17 (.bool false) rfl (by kernel_rfl) (by kernel_rfl) (by kernel_rfl) (fun _ _ _ h => h) hHeld (Or.inl ⟨by rfl, fun w' hSw => by (try dsimp only at hSw); (try subst hSw); go_simp⟩) ?_
        simp only [Act.put, List.setIfInBounds_toArray, List.set_cons_zero, List.set_cons_succ]
        refine held_take 18 (.bool false) rfl (by kernel_rfl) (by kernel_rfl) (by kernel_rfl) (fun _ _ _ h => h) hHeld (Or.inl ⟨by rfl, fun w' hSw => by (try dsimp only at hSw); (try subst hSw); go_simp⟩) ?_
        simp only [Act.put, List.setIfInBounds_toArray, List.set_cons_zero, List.set_cons_succ]
        refine wpAnyH_done (by kernel_rfl) ?_ _
        clear hHeld
        go_wp2
        go_roundw
        case rel => exact ⟨j + 1 + 1, by omega, by go_num, hnx, hka.trans k6⟩
        case measure => simp [intOf]; omega
      · have hnt := Lib.hid (hb3'.out (by omega))
        have d9 : decide (xc ≤ pf) = true := decide_eq_true (by omega)
        have d8 : xc ≤ pf := by omega
        refine wp_region_held_drew (S := fun w' => w'.cell? ⟨w.heap.size, 6, none⟩ = some (.slice (some ⟨g, o, none⟩) ss.length sc) ∧ w'.cell? ⟨ga, 0, none⟩ = some (.int .u32 xc) ∧ w'.cell? ⟨g, o + j * 21, none⟩ = some (.int .u32 pf)) (by kernel_rfl) (KQ.out _ (Only.refl [] _).drew) (fun hHeld => ?_)
        refine held_step 0 rfl (by kernel_rfl) (fun K hK => ?_)
        rw [if_pos (show Region.wanted _ _ = true from rfl)]
        refine wp_load_mid 56 _ rfl ga 0 rfl (seaA x).toList _ (Blk.range9 hbx.out) Tryz.underlying56 rfl size_sea ?_
        refine hK.out _ _ (KQ.out _ (Only.refl [] _).drew) (fun hHeld => ?_)
        clear hK K
        refine held_step 1 rfl (by kernel_rfl) (fun K hK => ?_)
        go_simp
        refine (hW.out _).mono ?_; rintro e w6 ⟨⟨r, rfl, hr⟩, k6⟩
        obtain rfl := hr.2 hwr.out
        clear hr; replace k6 := k6.undrew
        go_wp2_with fail
        refine hK.out _ _ (KQ.out _ k6) (fun hHeld => ?_)
        clear hK K
        refine held_take 2 (.bool false) rfl (by kernel_rfl) (by kernel_rfl) (by kernel_rfl) (fun _ _ _ h => h) hHeld (Or.inl ⟨by rfl, fun w' hSw => by (try dsimp only at hSw); (try subst hSw); go_simp⟩) ?_
        simp only [Act.put, List.setIfInBounds_toArray, List.set_cons_zero, List.set_cons_succ]
        refine held_take 3 (.bool false) rfl (by kernel_rfl) (by kernel_rfl) (by kernel_rfl) (fun _ _ _ h => h) hHeld (Or.inl ⟨by rfl, fun w' hSw => by (try dsimp only at hSw); (try subst hSw); go_simp⟩) ?_
        simp only [Act.put, List.setIfInBounds_toArray, List.set_cons_zero, List.set_cons_succ]
        refine held_take 4 (.int .i64 ((j : Int) + 1)) rfl (by kernel_rfl) (by kernel_rfl) (by kernel_rfl) (fun _ _ _ h => h) hHeld (Or.inl ⟨by rfl, fun w' hSw => by (try dsimp only at hSw); (try subst hSw); go_simp⟩) ?_
        simp only [Act.put, List.setIfInBounds_toArray, List.set_cons_zero, List.set_cons_succ]
        refine held_take 5 (.bool true) rfl (by kernel_rfl) (by kernel_rfl) (by kernel_rfl) (fun _ _ _ h => h) hHeld (Or.inl ⟨by rfl, fun w' hSw => by (try dsimp only at hSw); (try subst hSw); go_simp⟩) ?_
        simp only [Act.put, List.setIfInBounds_toArray, List.set_cons_zero, List.set_cons_succ]
        refine held_take 6 (.bool true) rfl (by kernel_rfl) (by kernel_rfl) (by kernel_rfl) (fun _ _ _ h => h) hHeld (Or.inl ⟨by rfl, fun w' hSw => by (try dsimp only at hSw); (try subst hSw); go_simp⟩) ?_
        simp only [Act.put, List.setIfInBounds_toArray, List.set_cons_zero, List.set_cons_succ]
        refine held_take 7 (.pointer (some ⟨w.heap.size, 6, none⟩)) rfl (by kernel_rfl) (by kernel_rfl) (by kernel_rfl) (fun _ _ _ h => h) hHeld (Or.inl ⟨by rfl, fun w' hSw => by (try dsimp only at hSw); (try subst hSw); go_simp⟩) ?_
        simp only [Act.put, List.setIfInBounds_toArray, List.set_cons_zero, List.set_cons_succ]
        refine held_take 8 (.slice (some ⟨g, o, none⟩) ss.length sc) rfl (by kernel_rfl) (by kernel_rfl) (by kernel_rfl) (fun _ _ _ h => h) hHeld (Or.inl ⟨by rfl, fun w' hSw => by (try dsimp only at hSw); (try subst hSw); go_simp⟩) ?_
        simp only [Act.put, List.setIfInBounds_toArray, List.set_cons_zero, List.set_cons_succ]
        refine held_take 9 (.int .i64 ((j : Int) + 1)) rfl (by kernel_rfl) (by kernel_rfl) (by kernel_rfl) (fun _ _ _ h => h) hHeld (Or.inl ⟨by rfl, fun w' hSw => by (try dsimp only at hSw); (try subst hSw); go_simp⟩) ?_
        simp only [Act.put, List.setIfInBounds_toArray, List.set_cons_zero, List.set_cons_succ]
        refine held_take 10 (.int .i64 j) rfl (by kernel_rfl) (by kernel_rfl) (by kernel_rfl) (fun _ _ _ h => h) hHeld (Or.inl ⟨by rfl, fun w' hSw => by (try dsimp only at hSw); (try subst hSw); go_simp⟩) ?_
        simp only [Act.put, List.setIfInBounds_toArray, List.set_cons_zero, List.set_cons_succ]
        refine held_take 11 (.pointer (some ⟨g, o + j * 21, none⟩)) rfl (by kernel_rfl) (by kernel_rfl) (by kernel_rfl) (fun _ _ _ h => h) hHeld (Or.inl ⟨by rfl, fun w' hSw => by (try dsimp only at hSw); (try subst hSw); go_simp⟩) ?_
        simp only [Act.put, List.setIfInBounds_toArray, List.set_cons_zero, List.set_cons_succ]
        refine held_take 12 (.pointer (some ⟨g, o + j * 21, none⟩)) rfl (by kernel_rfl) (by kernel_rfl) (by kernel_rfl) (fun _ _ _ h => h) hHeld (Or.inl ⟨by rfl, fun w' hSw => by (try dsimp only at hSw); (try subst hSw); go_simp⟩) ?_
        simp only [Act.put, List.setIfInBounds_toArray, List.set_cons_zero, List.set_cons_succ]
        refine held_take 13 (.int .u32 pf) rfl (by kernel_rfl) (by kernel_rfl) (by kernel_rfl) (fun _ _ _ h => h) hHeld (Or.inl ⟨by rfl, fun w' hSw => by (try dsimp only at hSw); (try subst hSw); go_simp⟩) ?_
        simp only [Act.put, List.setIfInBounds_toArray, List.set_cons_zero, List.set_cons_succ]
        refine held_take 14 (.pointer (some ⟨ga, 0, none⟩)) rfl (by kernel_rfl) (by kernel_rfl) (by kernel_rfl) (fun _ _ _ h => h) hHeld (Or.inl ⟨by rfl, fun w' hSw => by (try dsimp only at hSw); (try subst hSw); go_simp⟩) ?_
        simp only [Act.put, List.setIfInBounds_toArray, List.set_cons_zero, List.set_cons_succ]
        refine held_take 15 (.int .u32 xc) rfl (by kernel_rfl) (by kernel_rfl) (by kernel_rfl) (fun _ _ _ h => h) hHeld (Or.inl ⟨by rfl, fun w' hSw => by (try dsimp only at hSw); (try subst hSw); go_simp⟩) ?_
        simp only [Act.put, List.setIfInBounds_toArray, List.set_cons_zero, List.set_cons_succ]
        refine held_take 16 (.bool true) rfl (by kernel_rfl) (by kernel_rfl) (by kernel_rfl) (fun _ _ _ h => h) hHeld (Or.inl ⟨by rfl, fun w' hSw => by (try dsimp only at hSw); (try subst hSw); go_simp⟩) ?_
        simp only [Act.put, List.setIfInBounds_toArray, List.set_cons_zero, List.set_cons_succ]
        refine held_take 17 (.bool true) rfl (by kernel_rfl) (by kernel_rfl) (by kernel_rfl) (fun _ _ _ h => h) hHeld (Or.inl ⟨by rfl, fun w' hSw => by (try dsimp only at hSw); (try subst hSw); go_simp⟩) ?_
        simp only [Act.put, List.setIfInBounds_toArray, List.set_cons_zero, List.set_cons_succ]
        refine held_take 18 (.bool true) rfl (by kernel_rfl) (by kernel_rfl) (by kernel_rfl) (fun _ _ _ h => h) hHeld (Or.inl ⟨by rfl, fun w' hSw => by (try dsimp only at hSw); (try subst hSw); go_simp⟩) ?_
        simp only [Act.put, List.setIfInBounds_toArray, List.set_cons_zero, List.set_cons_succ]
        refine wpAnyH_done (by kernel_rfl) ?_ _
        clear hHeld
        go_wp2
        go_ret
        exact ⟨Says.no hnt.out, hwa.trans k6⟩

end Go.Proofs.YtalkhhjfplahkaaGreat
