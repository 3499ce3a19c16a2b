/- The walk of WalPlays. -/
import Derived.Test.YtihoebmfanelkaaDuo5
namespace Go.Proofs.Ytihoebmfanelkaa
open Go.RowKit

theorem duoDo_any (w w1 : World) (bp p m N k : Nat) (x : Deed) (h : Duo w w1 bp p m N k) (hk : k ≤ 900) (hx : x.okay w) (hraw : x.raw.length ≤ 300) :
    Calls Try.prog 13 #[.pointer (some ⟨bp, 0, none⟩), .agg #[.int .i64 x.kind, .int .i64 x.num, .int .u64 (x.keep : Int), .string (strOf x.raw), .slice x.A x.l.length x.c]] w1 fun e w' => e = .returned (.bool true) ∧ Duo w w' bp p m N (k + 1) := by
  by_cases k0 : x.kind.tmod 6 = 0
  · exact duoCommit_any w w1 bp p m N k x.kind x.num x.keep x.raw x.A x.c x.l h hk hx.blks hx.len hx.cap k0
  by_cases k1 : x.kind.tmod 6 = 1
  · exact duoFuse_any w w1 bp p m N k x.kind x.num x.keep x.raw x.A x.c x.l h hx.num k1
  by_cases k2 : x.kind.tmod 6 = 2
  · exact duoCrash_any w w1 bp p m N k x.kind x.num x.keep x.raw x.A x.c x.l h hk hx.keep k2
  by_cases k3 : x.kind.tmod 6 = 3
  · exact duoRead_any w w1 bp p m N k x.kind x.num x.keep x.raw x.A x.c x.l h hk k3
  by_cases k4 : x.kind.tmod 6 = 4
  · exact duoBoth_any w w1 bp p m N k x.kind x.num x.keep x.raw x.A x.c x.l h hk hx.keep k4
  by_cases k5 : x.kind.tmod 6 = 5
  · exact duoRaw_any w w1 bp p m N k x.kind x.num x.keep x.raw x.A x.c x.l h hk hx.num (by omega) k5
  exact duoElse_any w w1 bp p m N k x.kind x.num x.keep x.raw x.A x.c x.l h (fun i h0 h6 => by
    rcases (show i = 0 ∨ i = 1 ∨ i = 2 ∨ i = 3 ∨ i = 4 ∨ i = 5 by omega) with rfl | rfl | rfl | rfl | rfl | rfl <;> assumption)

theorem Duo.keep {w w1 w2 : World} {bp p m N k : Nat} (h : Duo w w1 bp p m N k) (kk : Only [] w1 w2) : Duo w w2 bp p m N k := by
  obtain ⟨F, G, s, t, v2, v3, h0, like, len, late, hback⟩ := h.parts
  exact hback w2 F G s t k (h0.keep kk) (fun _ _ _ _ _ _ x => x.keep kk) like len late
theorem Duo.only {w w1 : World} {bp p m N k : Nat} (h : Duo w w1 bp p m N k) : Only [] w w1 := by
  obtain ⟨F, G, s, t, v2, v3, h0, _⟩ := h.parts
  exact h0.only
theorem Deeds.kept {w w' : World} {A : Option Addr} {l : List Deed} (h : Deeds w A l) (k : Only [] w w') : Deeds w' A l := by
  refine ⟨h.1.imp id ?_, fun x hx => (h.2 x hx).kept k⟩
  rintro ⟨g, o, rfl, hg, hat⟩
  exact ⟨g, o, rfl, Nat.lt_of_lt_of_le hg k.size, fun i hi => (hat i hi).kept k⟩

set_option maxRecDepth 100000 in
set_option maxHeartbeats 4000000 in
theorem walPlays_walk (w : World) (z : Int) (A : Option Addr) (c : Nat) (l : List Deed) (hA : Deeds w A l) (hl : l.length ≤ 9223372036854775807) :
    Calls Try.prog 3 #[.int .i64 z, .slice A l.length c] w fun e w' => e = .returned (.bool true) ∧ Only [] w w' := by
  have halive := fun W => alive_any W
  have hfew := fun W k => few_any W A c l (hA.kept k)
  obtain ⟨u, hu⟩ : ∃ u : Int, u = z % 18446744073709551616 := ⟨_, rfl⟩
  have hu0 : 0 ≤ u := by omega
  have hu1 : u < 18446744073709551616 := by omega
  obtain ⟨r, hr⟩ : ∃ r : Nat, (r : Int) = u % 6 := ⟨(u % 6).toNat, Int.toNat_of_nonneg (Int.emod_nonneg _ (by omega))⟩
  have hr6 : r < 6 := by omega
  have hwu : IntKind.u64.wrap z = u := by rw [IntKind.wrap_u64, hu]
  have hr' : u % 6 = (r : Int) := hr.symm
  clear hr
  replace hu := Lib.hid hu
  replace halive := Lib.hid halive
  replace hfew := Lib.hid hfew
  replace hl := Lib.hid hl
  go_enter Try.func3, Try.ntmps3
  go_wp2_with fail
  refine (halive.out _).mono ?_
  rintro e w1 ⟨rfl, k1⟩
  go_wp2_with fail
  refine (hfew.out w1 k1).mono ?_
  rintro e w2 ⟨⟨r1, rfl, q1⟩, k2⟩
  have k12 := k1.trans k2
  clear k1 k2
  cases r1 with
  | false =>
    go_wp2_with fail
    refine (halive.out _).mono ?_
    rintro e w3 ⟨rfl, k3⟩
    have kend := k12.trans k3
    go_wp2
    go_ret
    exact ⟨rfl, kend⟩
  | true =>
  have hshort := Lib.hid (q1 rfl)
  clear q1
  go_wp2_with fail
  have hrI : (r : Int) ≤ 5 := by omega
  obtain ⟨N, hN⟩ : ∃ N : Nat, N = 41 + r := ⟨_, rfl⟩
  have hNr : (41 : Int) + (r : Int) = (N : Int) := by omega
  have hN1 : 41 ≤ N := by omega
  have hN2 : N ≤ 46 := by omega
  rw [hNr]
  clear hr' hwu hu0 hu1 hu hrI hN hNr hr6
  refine (ownNew_any w w2 N (by omega) (by omega) k12).mono ?_
  rintro e w3 ⟨p, F, rfl, hd3, k3, _⟩
  go_wp2_with fail
  refine (rnew_any w3 N (by omega) (by omega)).mono ?_
  rintro e w4 ⟨m, G, rfl, href, k4, hG⟩
  have ka : Only [] w4 (w4.alloc (.cells #[.pointer (some ⟨p, 0, none⟩), .pointer (some ⟨m, 0, none⟩), .pointer none, .pointer none] 34)) := (Only.refl [] w4).alloc _
  have ba : Blk (w4.alloc (.cells #[.pointer (some ⟨p, 0, none⟩), .pointer (some ⟨m, 0, none⟩), .pointer none, .pointer none] 34)) w4.heap.size 34 #[.pointer (some ⟨p, 0, none⟩), .pointer (some ⟨m, 0, none⟩), .pointer none, .pointer none] := Blk.new _ _ _
  obtain ⟨bp, hbp⟩ : ∃ bp, bp = w4.heap.size := ⟨_, rfl⟩
  rw [← hbp] at ba
  have hs3 := hd3.only.size
  have hs4 := k4.size
  have hcore : Core w (w4.alloc (.cells #[.pointer (some ⟨p, 0, none⟩), .pointer (some ⟨m, 0, none⟩), .pointer none, .pointer none] 34)) bp p m F G (fresh N) (fresh N) (.pointer none) (.pointer none) :=
    ⟨(hd3.dev.kept k4 (by simp)).kept ka (by simp), href.kept ka (by simp), ba, (hd3.only.trans k4).trans ka, fun j hj => ⟨(hd3.new j hj).1, by have := (hd3.new j hj).2; have := ka.size; omega⟩,
      fun j hj => ⟨by have := (hG j hj).1; omega, by have := (hG j hj).2; have := ka.size; omega⟩, by omega, fun j hj hg => by have := (hd3.new j hj).2; have := (hG j hg).1; omega,
      fun hm => by have := (hd3.new _ hm).2; omega, fun hm => by have := (hG _ hm).2; omega⟩
  go_wp2_with fail
  simp only [← hbp]
  generalize w4.alloc (.cells #[.pointer (some ⟨p, 0, none⟩), .pointer (some ⟨m, 0, none⟩), .pointer none, .pointer none] 34) = w5 at *
  clear ba ka hbp hd3 href hG k4 k3 hs3 hs4
  refine (duoOpen_any w w5 bp p m N 1 F G (fresh N) (fresh N) _ _ hcore ⟨rfl, rfl, rfl, .inl rfl⟩ (fresh_firm N) (by simp [fresh]) (by omega)).mono ?_
  rintro e w6 ⟨rfl, hduo⟩
  clear hcore
  go_wp2_with fail
  go_loopw [7] (fun i wr => ∃ k : Nat, k ≤ l.length ∧ k ≤ 40 ∧ i = .int .i64 k ∧ Duo w wr bp p m N (k + 1)) (fun i _ => l.length - (intOf i).toNat)
  case atStart => exact ⟨0, Nat.zero_le _, by omega, rfl, hduo⟩
  case round =>
    clear hduo
    obtain ⟨k, hk, hk40, rfl, hduo⟩ := hrel
    have hkw := hduo.only
    by_cases hlt : k < l.length ∧ k < 40
    · obtain ⟨hlt, hlt2⟩ := hlt
      obtain ⟨g, o, rfl, hg, hat⟩ := hA.get hlt
      have hok := hA.2 _ (List.getElem_mem hlt)
      have hrw := hshort.out k _ hlt2 (List.getElem?_eq_getElem hlt)
      obtain ⟨c0, c1, c2, c3, c4⟩ := hat.kept hkw
      have hdo := duoDo_any w wr bp p m N (k + 1) l[k] hduo (by omega) hok hrw
      generalize l[k] = x at *
      obtain ⟨kind, num, keep, raw, A4, c4', l4⟩ := x
      simp only at c0 c1 c2 c3 c4 hdo
      generalize strOf raw = rs at *
      clear hat hok hrw hduo
      replace hdo := Lib.hid hdo
      go_wp2_with fail
      refine hdo.out.mono ?_
      rintro e w7 ⟨rfl, hd7⟩
      clear hdo c0 c1 c2 c3 c4 hkw
      go_wp2_with fail
      go_loopw [8] (fun i wr' => ∃ v : Nat, v ≤ N ∧ i = .int .i64 v ∧ Duo w wr' bp p m N (k + 2)) (fun i _ => N - (intOf i).toNat)
      case atStart => exact ⟨0, Nat.zero_le _, rfl, hd7⟩
      case round =>
        clear hd7
        obtain ⟨v, hv, rfl, hd7⟩ := hrel
        obtain ⟨F, G, s, t, v2, v3, hc, like, len, _, _⟩ := hd7.parts
        by_cases hlv : v < N
        · obtain ⟨e0, e1, _, _⟩ := hc.cells
          obtain ⟨gf, cf, Al, cl, r0, _, _, _, rk⟩ := hc.ref.cells (by rw [← like.1, len]; omega)
          have rv := rk v (by rw [← like.1, len]; exact hlv)
          rw [← like.1, len] at r0
          rw [← like.1] at rv
          have hset := settled_any wr p F s v hc.dev
          have hf : firmB s (v : Int) = s.firm.getD v [] := by
            have hh : hasBlock s.firm.length (v : Int) = true := by rw [len]; simp only [hasBlock, decide_eq_true_eq]; omega
            rw [firmB, if_neg (by rw [hh]; decide), Int.toNat_natCast]
          rw [hf] at hset
          have hset2 : ∀ W, Only [] wr W → Calls Try.prog 14 #[.pointer (some ⟨p, 0, none⟩), .int .i64 (v : Int)] W fun e w' => e = .returned (.string (strOf (s.firm.getD v []))) ∧ w' = W := fun W kw => by
            have := settled_any W p F s v (hc.dev.kept kw (by simp))
            rwa [hf] at this
          generalize strOf (s.firm.getD v []) = y at *
          replace hset2 := Lib.hid hset2
          clear hset hf rk hc like len
          replace hd7 := Lib.hid hd7
          have hvN : (v : Int) < (N : Int) := by omega
          go_wp2_with fail
          have kd : Only [] wr wr.drew := (Only.refl [] wr).drew
          refine wp_region_held_drew (S := fun w' => w'.cell? ⟨bp, 0, none⟩ = some (.pointer (some ⟨p, 0, none⟩)) ∧ w'.cell? ⟨bp, 1, none⟩ = some (.pointer (some ⟨m, 0, none⟩)) ∧ w'.cell? ⟨m, 0, none⟩ = some (.slice (some ⟨gf, 0, none⟩) N cf) ∧ w'.cell? ⟨gf, v, none⟩ = some (.string y)) (by kernel_rfl) ⟨e0, e1, r0, rv⟩ (fun hHeld => ?_)
          refine held_take 0 (.pointer (some ⟨bp, 0, none⟩)) rfl (by kernel_rfl) (by kernel_rfl) (by kernel_rfl) (fun _ _ _ h => h) hHeld (Or.inl ⟨by rfl, fun w' hSw => by (try dsimp only at hSw); (try subst hSw); go_simp⟩) ?_
          simp only [Act.put, List.setIfInBounds_toArray, List.set_cons_zero, List.set_cons_succ]
          refine held_take 1 (.pointer (some ⟨bp, 0, none⟩)) rfl (by kernel_rfl) (by kernel_rfl) (by kernel_rfl) (fun _ _ _ h => h) hHeld (Or.inl ⟨by rfl, fun w' hSw => by (try dsimp only at hSw); (try subst hSw); go_simp⟩) ?_
          simp only [Act.put, List.setIfInBounds_toArray, List.set_cons_zero, List.set_cons_succ]
          refine held_take 2 (.pointer (some ⟨bp, 0, none⟩)) rfl (by kernel_rfl) (by kernel_rfl) (by kernel_rfl) (fun _ _ _ h => h) hHeld (Or.inl ⟨by rfl, fun w' hSw => by (try dsimp only at hSw); (try subst hSw); go_simp⟩) ?_
          simp only [Act.put, List.setIfInBounds_toArray, List.set_cons_zero, List.set_cons_succ]
          refine held_take 3 (.pointer (some ⟨p, 0, none⟩)) rfl (by kernel_rfl) (by kernel_rfl) (by kernel_rfl) (fun _ _ _ h => h) hHeld (Or.inl ⟨by rfl, fun w' hSw => by (try dsimp only at hSw); (try subst hSw); go_simp⟩) ?_
          simp only [Act.put, List.setIfInBounds_toArray, List.set_cons_zero, List.set_cons_succ]
          refine held_take 4 (.int .i64 (v : Int)) rfl (by kernel_rfl) (by kernel_rfl) (by kernel_rfl) (fun _ _ _ h => h) hHeld (Or.inl ⟨by rfl, fun w' hSw => by (try dsimp only at hSw); (try subst hSw); go_simp⟩) ?_
          simp only [Act.put, List.setIfInBounds_toArray, List.set_cons_zero, List.set_cons_succ]
          refine held_take 6 (.pointer (some ⟨bp, 0, none⟩)) rfl (by kernel_rfl) (by kernel_rfl) (by kernel_rfl) (fun _ _ _ h => h) hHeld (Or.inl ⟨by rfl, fun w' hSw => by (try dsimp only at hSw); (try subst hSw); go_simp⟩) ?_
          simp only [Act.put, List.setIfInBounds_toArray, List.set_cons_zero, List.set_cons_succ]
          refine held_take 7 (.pointer (some ⟨bp, 0, none⟩)) rfl (by kernel_rfl) (by kernel_rfl) (by kernel_rfl) (fun _ _ _ h => h) hHeld (Or.inl ⟨by rfl, fun w' hSw => by (try dsimp only at hSw); (try subst hSw); go_simp⟩) ?_
          simp only [Act.put, List.setIfInBounds_toArray, List.set_cons_zero, List.set_cons_succ]
          refine held_take 8 (.pointer (some ⟨bp, 1, none⟩)) rfl (by kernel_rfl) (by kernel_rfl) (by kernel_rfl) (fun _ _ _ h => h) hHeld (Or.inl ⟨by rfl, fun w' hSw => by (try dsimp only at hSw); (try subst hSw); go_simp⟩) ?_
          simp only [Act.put, List.setIfInBounds_toArray, List.set_cons_zero, List.set_cons_succ]
          refine held_take 9 (.pointer (some ⟨m, 0, none⟩)) rfl (by kernel_rfl) (by kernel_rfl) (by kernel_rfl) (fun _ _ _ h => h) hHeld (Or.inl ⟨by rfl, fun w' hSw => by (try dsimp only at hSw); (try subst hSw); go_simp⟩) ?_
          simp only [Act.put, List.setIfInBounds_toArray, List.set_cons_zero, List.set_cons_succ]
          refine held_take 10 (.pointer (some ⟨m, 0, none⟩)) rfl (by kernel_rfl) (by kernel_rfl) (by kernel_rfl) (fun _ _ _ h => h) hHeld (Or.inl ⟨by rfl, fun w' hSw => by (try dsimp only at hSw); (try subst hSw); go_simp⟩) ?_
          simp only [Act.put, List.setIfInBounds_toArray, List.set_cons_zero, List.set_cons_succ]
          refine held_take 11 (.pointer (some ⟨m, 0, none⟩)) rfl (by kernel_rfl) (by kernel_rfl) (by kernel_rfl) (fun _ _ _ h => h) hHeld (Or.inl ⟨by rfl, fun w' hSw => by (try dsimp only at hSw); (try subst hSw); go_simp⟩) ?_
          simp only [Act.put, List.setIfInBounds_toArray, List.set_cons_zero, List.set_cons_succ]
          refine held_take 12 (.slice (some ⟨gf, 0, none⟩) N cf) rfl (by kernel_rfl) (by kernel_rfl) (by kernel_rfl) (fun _ _ _ h => h) hHeld (Or.inl ⟨by rfl, fun w' hSw => by (try dsimp only at hSw); (try subst hSw); go_simp⟩) ?_
          simp only [Act.put, List.setIfInBounds_toArray, List.set_cons_zero, List.set_cons_succ]
          refine held_take 13 (.int .i64 (v : Int)) rfl (by kernel_rfl) (by kernel_rfl) (by kernel_rfl) (fun _ _ _ h => h) hHeld (Or.inl ⟨by rfl, fun w' hSw => by (try dsimp only at hSw); (try subst hSw); go_simp⟩) ?_
          simp only [Act.put, List.setIfInBounds_toArray, List.set_cons_zero, List.set_cons_succ]
          refine held_take 14 (.pointer (some ⟨gf, v, none⟩)) rfl (by kernel_rfl) (by kernel_rfl) (by kernel_rfl) (fun _ _ _ h => h) hHeld (Or.inl ⟨by rfl, fun w' hSw => by (try dsimp only at hSw); (try subst hSw); go_simp⟩) ?_
          simp only [Act.put, List.setIfInBounds_toArray, List.set_cons_zero, List.set_cons_succ]
          refine held_take 15 (.string y) rfl (by kernel_rfl) (by kernel_rfl) (by kernel_rfl) (fun _ _ _ h => h) hHeld (Or.inl ⟨by rfl, fun w' hSw => by (try dsimp only at hSw); (try subst hSw); go_simp⟩) ?_
          simp only [Act.put, List.setIfInBounds_toArray, List.set_cons_zero, List.set_cons_succ]
          refine held_step 5 rfl (by kernel_rfl) (fun K hK => ?_)
          go_simp
          go_at_call 14
          refine (hset2.out _ kd).mono ?_
          rintro e w8 ⟨rfl, rfl⟩
          go_wp2_with fail
          refine hK.out _ _ ⟨e0, e1, r0, rv⟩ (fun hHeld => ?_)
          clear hK K
          refine held_take 16 (.bool false) rfl (by kernel_rfl) (by kernel_rfl) (by kernel_rfl) (fun _ _ _ h => h) hHeld (Or.inl ⟨by rfl, fun w' hSw => by (try dsimp only at hSw); (try subst hSw); go_simp⟩) ?_
          simp only [Act.put, List.setIfInBounds_toArray, List.set_cons_zero, List.set_cons_succ]
          refine wpAnyH_done (by kernel_rfl) ?_ _
          clear hHeld
          have hd8 := Lib.hid (hd7.out.keep kd)
          clear hset2 e0 e1 r0 rv hd7
          go_wp2
          go_roundw
          case rel => exact ⟨v + 1, by omega, by go_num, hd8.out⟩
          case measure => simp [intOf]; omega
        · have hge : (N : Int) ≤ v := by omega
          clear hc like len
          cases hd7 with
          | none F G s t h0 like len late =>
            obtain ⟨_, _, _, c3⟩ := h0.cells
            have hd8 := fun n => Lib.hid ((Duo.none F G s t h0 like len late).keep ((Only.refl [] wr).drewN n))
            clear h0 like len late
            go_wp2_with fail
            go_quiet (fail)
            go_wp2
            go_roundw
            case rel => exact ⟨k + 1, by omega, by omega, by go_num, (hd8 _).out⟩
            case measure => simp [intOf]; omega
          | some F G s t lp xp n f h0 logs like len late few big =>
            obtain ⟨_, _, c2, c3⟩ := h0.cells
            obtain ⟨_, x1, _⟩ := logs.rlog.cells
            have kd : Only [] wr wr.drew := (Only.refl [] wr).drew
            have hlast := last_any wr.drew lp p n f (logs.keep kd).log
            have hsize := size_any wr.drew lp p n f F s (logs.keep kd).log (h0.keep kd).dev
            rw [len] at hsize
            have hd8 := (Duo.some F G s t lp xp n f h0 logs like len late few big).keep kd
            obtain ⟨nn, hnn⟩ : ∃ nn : Int, nn = (n : Int) := ⟨_, rfl⟩
            rw [← hnn] at x1 hlast
            obtain ⟨M, hM⟩ : ∃ M : Int, M = (N : Int) - 41 := ⟨_, rfl⟩
            rw [← hM] at hsize
            have hwM : IntKind.i64.wrap ((N : Int) - 41) = M := by rw [hM, IntKind.wrap_i64]; omega
            replace hnn := Lib.hid hnn
            replace hM := Lib.hid hM
            replace hd8 := Lib.hid hd8
            replace hlast := Lib.hid hlast
            replace hsize := Lib.hid hsize
            clear h0 logs like len late few big
            go_wp2_with fail
            refine wp_region_held_drew (S := fun w' => w'.cell? ⟨bp, 2, none⟩ = some (.pointer (some ⟨lp, 0, none⟩)) ∧ w'.cell? ⟨bp, 3, none⟩ = some (.pointer (some ⟨xp, 0, none⟩)) ∧ w'.cell? ⟨xp, 1, none⟩ = some (.int .u32 nn)) (by kernel_rfl) ⟨c2, c3, x1⟩ (fun hHeld => ?_)
            refine held_take 0 (.pointer (some ⟨bp, 0, none⟩)) rfl (by kernel_rfl) (by kernel_rfl) (by kernel_rfl) (fun _ _ _ h => h) hHeld (Or.inl ⟨by rfl, fun w' hSw => by (try dsimp only at hSw); (try subst hSw); go_simp⟩) ?_
            simp only [Act.put, List.setIfInBounds_toArray, List.set_cons_zero, List.set_cons_succ]
            refine held_take 1 (.pointer (some ⟨bp, 0, none⟩)) rfl (by kernel_rfl) (by kernel_rfl) (by kernel_rfl) (fun _ _ _ h => h) hHeld (Or.inl ⟨by rfl, fun w' hSw => by (try dsimp only at hSw); (try subst hSw); go_simp⟩) ?_
            simp only [Act.put, List.setIfInBounds_toArray, List.set_cons_zero, List.set_cons_succ]
            refine held_take 2 (.pointer (some ⟨bp, 3, none⟩)) rfl (by kernel_rfl) (by kernel_rfl) (by kernel_rfl) (fun _ _ _ h => h) hHeld (Or.inl ⟨by rfl, fun w' hSw => by (try dsimp only at hSw); (try subst hSw); go_simp⟩) ?_
            simp only [Act.put, List.setIfInBounds_toArray, List.set_cons_zero, List.set_cons_succ]
            refine held_take 3 (.pointer (some ⟨xp, 0, none⟩)) rfl (by kernel_rfl) (by kernel_rfl) (by kernel_rfl) (fun _ _ _ h => h) hHeld (Or.inl ⟨by rfl, fun w' hSw => by (try dsimp only at hSw); (try subst hSw); go_simp⟩) ?_
            simp only [Act.put, List.setIfInBounds_toArray, List.set_cons_zero, List.set_cons_succ]
            refine held_take 4 (.bool true) rfl (by kernel_rfl) (by kernel_rfl) (by kernel_rfl) (fun _ _ _ h => h) hHeld (Or.inl ⟨by rfl, fun w' hSw => by (try dsimp only at hSw); (try subst hSw); go_simp⟩) ?_
            simp only [Act.put, List.setIfInBounds_toArray, List.set_cons_zero, List.set_cons_succ]
            refine held_take 5 (.bool true) rfl (by kernel_rfl) (by kernel_rfl) (by kernel_rfl) (fun _ _ _ h => h) hHeld (Or.inl ⟨by rfl, fun w' hSw => by (try dsimp only at hSw); (try subst hSw); go_simp⟩) ?_
            simp only [Act.put, List.setIfInBounds_toArray, List.set_cons_zero, List.set_cons_succ]
            refine held_take 6 (.pointer (some ⟨bp, 0, none⟩)) rfl (by kernel_rfl) (by kernel_rfl) (by kernel_rfl) (fun _ _ _ h => h) hHeld (Or.inl ⟨by rfl, fun w' hSw => by (try dsimp only at hSw); (try subst hSw); go_simp⟩) ?_
            simp only [Act.put, List.setIfInBounds_toArray, List.set_cons_zero, List.set_cons_succ]
            refine held_take 7 (.pointer (some ⟨bp, 0, none⟩)) rfl (by kernel_rfl) (by kernel_rfl) (by kernel_rfl) (fun _ _ _ h => h) hHeld (Or.inl ⟨by rfl, fun w' hSw => by (try dsimp only at hSw); (try subst hSw); go_simp⟩) ?_
            simp only [Act.put, List.setIfInBounds_toArray, List.set_cons_zero, List.set_cons_succ]
            refine held_take 8 (.pointer (some ⟨bp, 2, none⟩)) rfl (by kernel_rfl) (by kernel_rfl) (by kernel_rfl) (fun _ _ _ h => h) hHeld (Or.inl ⟨by rfl, fun w' hSw => by (try dsimp only at hSw); (try subst hSw); go_simp⟩) ?_
            simp only [Act.put, List.setIfInBounds_toArray, List.set_cons_zero, List.set_cons_succ]
            refine held_take 9 (.pointer (some ⟨lp, 0, none⟩)) rfl (by kernel_rfl) (by kernel_rfl) (by kernel_rfl) (fun _ _ _ h => h) hHeld (Or.inl ⟨by rfl, fun w' hSw => by (try dsimp only at hSw); (try subst hSw); go_simp⟩) ?_
            simp only [Act.put, List.setIfInBounds_toArray, List.set_cons_zero, List.set_cons_succ]
            refine held_take 11 (.pointer (some ⟨bp, 0, none⟩)) rfl (by kernel_rfl) (by kernel_rfl) (by kernel_rfl) (fun _ _ _ h => h) hHeld (Or.inl ⟨by rfl, fun w' hSw => by (try dsimp only at hSw); (try subst hSw); go_simp⟩) ?_
            simp only [Act.put, List.setIfInBounds_toArray, List.set_cons_zero, List.set_cons_succ]
            refine held_take 12 (.pointer (some ⟨bp, 0, none⟩)) rfl (by kernel_rfl) (by kernel_rfl) (by kernel_rfl) (fun _ _ _ h => h) hHeld (Or.inl ⟨by rfl, fun w' hSw => by (try dsimp only at hSw); (try subst hSw); go_simp⟩) ?_
            simp only [Act.put, List.setIfInBounds_toArray, List.set_cons_zero, List.set_cons_succ]
            refine held_take 13 (.pointer (some ⟨bp, 3, none⟩)) rfl (by kernel_rfl) (by kernel_rfl) (by kernel_rfl) (fun _ _ _ h => h) hHeld (Or.inl ⟨by rfl, fun w' hSw => by (try dsimp only at hSw); (try subst hSw); go_simp⟩) ?_
            simp only [Act.put, List.setIfInBounds_toArray, List.set_cons_zero, List.set_cons_succ]
            refine held_take 14 (.pointer (some ⟨xp, 0, none⟩)) rfl (by kernel_rfl) (by kernel_rfl) (by kernel_rfl) (fun _ _ _ h => h) hHeld (Or.inl ⟨by rfl, fun w' hSw => by (try dsimp only at hSw); (try subst hSw); go_simp⟩) ?_
            simp only [Act.put, List.setIfInBounds_toArray, List.set_cons_zero, List.set_cons_succ]
            refine held_take 15 (.pointer (some ⟨xp, 0, none⟩)) rfl (by kernel_rfl) (by kernel_rfl) (by kernel_rfl) (fun _ _ _ h => h) hHeld (Or.inl ⟨by rfl, fun w' hSw => by (try dsimp only at hSw); (try subst hSw); go_simp⟩) ?_
            simp only [Act.put, List.setIfInBounds_toArray, List.set_cons_zero, List.set_cons_succ]
            refine held_take 16 (.pointer (some ⟨xp, 1, none⟩)) rfl (by kernel_rfl) (by kernel_rfl) (by kernel_rfl) (fun _ _ _ h => h) hHeld (Or.inl ⟨by rfl, fun w' hSw => by (try dsimp only at hSw); (try subst hSw); go_simp⟩) ?_
            simp only [Act.put, List.setIfInBounds_toArray, List.set_cons_zero, List.set_cons_succ]
            refine held_take 17 (.int .u32 nn) rfl (by kernel_rfl) (by kernel_rfl) (by kernel_rfl) (fun _ _ _ h => h) hHeld (Or.inl ⟨by rfl, fun w' hSw => by (try dsimp only at hSw); (try subst hSw); go_simp⟩) ?_
            simp only [Act.put, List.setIfInBounds_toArray, List.set_cons_zero, List.set_cons_succ]
            refine held_step 10 rfl (by kernel_rfl) (fun K hK => ?_)
            go_simp
            go_at_call 15
            refine hlast.out.mono ?_
            rintro e w8 ⟨rfl, rfl⟩
            go_wp2_with fail
            refine hK.out _ _ ⟨c2, c3, x1⟩ (fun hHeld => ?_)
            clear hK K
            refine held_take 18 (.bool false) rfl (by kernel_rfl) (by kernel_rfl) (by kernel_rfl) (fun _ _ _ h => h) hHeld (Or.inl ⟨by rfl, fun w' hSw => by (try dsimp only at hSw); (try subst hSw); go_simp⟩) ?_
            simp only [Act.put, List.setIfInBounds_toArray, List.set_cons_zero, List.set_cons_succ]
            refine held_take 19 (.bool false) rfl (by kernel_rfl) (by kernel_rfl) (by kernel_rfl) (fun _ _ _ h => h) hHeld (Or.inl ⟨by rfl, fun w' hSw => by (try dsimp only at hSw); (try subst hSw); go_simp⟩) ?_
            simp only [Act.put, List.setIfInBounds_toArray, List.set_cons_zero, List.set_cons_succ]
            refine held_take 20 (.pointer (some ⟨bp, 0, none⟩)) rfl (by kernel_rfl) (by kernel_rfl) (by kernel_rfl) (fun _ _ _ h => h) hHeld (Or.inl ⟨by rfl, fun w' hSw => by (try dsimp only at hSw); (try subst hSw); go_simp⟩) ?_
            simp only [Act.put, List.setIfInBounds_toArray, List.set_cons_zero, List.set_cons_succ]
            refine held_take 21 (.pointer (some ⟨bp, 0, none⟩)) rfl (by kernel_rfl) (by kernel_rfl) (by kernel_rfl) (fun _ _ _ h => h) hHeld (Or.inl ⟨by rfl, fun w' hSw => by (try dsimp only at hSw); (try subst hSw); go_simp⟩) ?_
            simp only [Act.put, List.setIfInBounds_toArray, List.set_cons_zero, List.set_cons_succ]
            refine held_take 22 (.pointer (some ⟨bp, 2, none⟩)) rfl (by kernel_rfl) (by kernel_rfl) (by kernel_rfl) (fun _ _ _ h => h) hHeld (Or.inl ⟨by rfl, fun w' hSw => by (try dsimp only at hSw); (try subst hSw); go_simp⟩) ?_
            simp only [Act.put, List.setIfInBounds_toArray, List.set_cons_zero, List.set_cons_succ]
            refine held_take 23 (.pointer (some ⟨lp, 0, none⟩)) rfl (by kernel_rfl) (by kernel_rfl) (by kernel_rfl) (fun _ _ _ h => h) hHeld (Or.inl ⟨by rfl, fun w' hSw => by (try dsimp only at hSw); (try subst hSw); go_simp⟩) ?_
            simp only [Act.put, List.setIfInBounds_toArray, List.set_cons_zero, List.set_cons_succ]
            refine held_take 25 (.int .i64 (N : Int)) rfl (by kernel_rfl) (by kernel_rfl) (by kernel_rfl) (fun _ _ _ h => h) hHeld (Or.inl ⟨by rfl, fun w' hSw => by (try dsimp only at hSw); (try subst hSw); go_simp⟩) ?_
            simp only [Act.put, List.setIfInBounds_toArray, List.set_cons_zero, List.set_cons_succ]
            refine held_take 26 (.int .i64 M) rfl (by kernel_rfl) (by kernel_rfl) (by kernel_rfl) (fun _ _ _ h => h) hHeld (Or.inl ⟨by rfl, fun w' hSw => by (try dsimp only at hSw); (try subst hSw); go_simp⟩) ?_
            simp only [Act.put, List.setIfInBounds_toArray, List.set_cons_zero, List.set_cons_succ]
            refine held_step 24 rfl (by kernel_rfl) (fun K hK => ?_)
            go_simp
            go_at_call 16
            refine hsize.out.mono ?_
            rintro e w9 ⟨rfl, rfl⟩
            go_wp2_with fail
            refine hK.out _ _ ⟨c2, c3, x1⟩ (fun hHeld => ?_)
            clear hK K
            refine held_take 27 (.bool false) rfl (by kernel_rfl) (by kernel_rfl) (by kernel_rfl) (fun _ _ _ h => h) hHeld (Or.inl ⟨by rfl, fun w' hSw => by (try dsimp only at hSw); (try subst hSw); go_simp⟩) ?_
            simp only [Act.put, List.setIfInBounds_toArray, List.set_cons_zero, List.set_cons_succ]
            refine held_take 28 (.bool false) rfl (by kernel_rfl) (by kernel_rfl) (by kernel_rfl) (fun _ _ _ h => h) hHeld (Or.inl ⟨by rfl, fun w' hSw => by (try dsimp only at hSw); (try subst hSw); go_simp⟩) ?_
            simp only [Act.put, List.setIfInBounds_toArray, List.set_cons_zero, List.set_cons_succ]
            refine held_take 29 (.bool false) rfl (by kernel_rfl) (by kernel_rfl) (by kernel_rfl) (fun _ _ _ h => h) hHeld (Or.inl ⟨by rfl, fun w' hSw => by (try dsimp only at hSw); (try subst hSw); go_simp⟩) ?_
            simp only [Act.put, List.setIfInBounds_toArray, List.set_cons_zero, List.set_cons_succ]
            refine wpAnyH_done (by kernel_rfl) ?_ _
            clear hHeld
            clear hlast hsize c2 c3 x1 kd
            go_wp2
            go_roundw
            case rel => exact ⟨k + 1, by omega, by omega, by go_num, hd8.out⟩
            case measure => simp [intOf]; omega
    · rcases (show (k < l.length ∧ (40 : Int) ≤ k) ∨ (l.length : Int) ≤ k by omega) with ⟨hge1, hge2⟩ | hge1
      all_goals
        clear hduo hlt
        go_wp2_with fail
        refine (halive.out _).mono ?_
        rintro e w8 ⟨rfl, k8⟩
        have kend := hkw.trans k8
        go_wp2
        go_ret
        exact ⟨rfl, kend⟩

end Go.Proofs.Ytihoebmfanelkaa
