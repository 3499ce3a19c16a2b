/- The walk of RowsPlay. -/
import Derived.Test.YthpjkhmkjhgbkaaGreatDoorAc5
namespace Go.Proofs.YthpjkhmkjhgbkaaGreatDoor
open Go.RowKit Go.Maps

set_option maxRecDepth 100000 in
set_option maxHeartbeats 4000000 in
theorem rowsPlay_walk (w : World) (z : Int) (A : Option Addr) (c : Nat) (l : List Deed) (hA : Deeds w A l) (hl : l.length ≤ 9223372036854775807) :
    Calls Tryz.prog 3 #[.int .i64 z, .slice A l.length c] w fun e w' => e = .returned (.bool true) ∧ Only [] w w' := by
  have halive := fun W => alive_any W
  obtain ⟨u, hu⟩ : ∃ u : Int, u = z % 18446744073709551616 := ⟨_, rfl⟩
  have hu0 : 0 ≤ u := by omega
  have hu1 : u < 18446744073709551616 := by omega
  obtain ⟨r, hr⟩ : ∃ r : Nat, (r : Int) = u % 6 := ⟨(u % 6).toNat, Int.toNat_of_nonneg (Int.emod_nonneg _ (by omega))⟩
  have hr6 : r < 6 := by omega
  have hwu : IntKind.u64.wrap z = u := by rw [IntKind.wrap_u64, hu]
  have hr' : u % 6 = (r : Int) := hr.symm
  clear hr
  replace hu := Lib.hid hu
  replace halive := Lib.hid halive
  replace hl := Lib.hid hl
  go_enter Tryz.func3, Tryz.ntmps3
  go_wp2_with fail
  refine (halive.out _).mono ?_
  rintro e w2 ⟨rfl, k12⟩
  go_wp2_with fail
  have hrI : (r : Int) ≤ 5 := by omega
  obtain ⟨N, hN⟩ : ∃ N : Nat, N = 42 + r := ⟨_, rfl⟩
  have hNr : (42 : Int) + (r : Int) = (N : Int) := by omega
  have hN1 : 42 ≤ N := by omega
  have hN2 : N ≤ 47 := by omega
  rw [hNr]
  clear hr' hwu hu0 hu1 hu hrI hN hNr hr6
  refine (ownNew_any w w2 N (by omega) (by omega) k12).mono ?_
  rintro e w3 ⟨p, F, rfl, hd3, k3, _⟩
  go_wp2_with fail
  refine (rnew_any w3 N (by omega) (by omega)).mono ?_
  rintro e w4 ⟨m, G, rfl, href, k4, hG⟩
  have ka : Only [] w4 (w4.alloc (.cells #[.pointer (some ⟨p, 0, none⟩), .pointer (some ⟨m, 0, none⟩), .pointer none, .pointer none, .slice none 0 0] 34)) := (Only.refl [] w4).alloc _
  have ba : Blk (w4.alloc (.cells #[.pointer (some ⟨p, 0, none⟩), .pointer (some ⟨m, 0, none⟩), .pointer none, .pointer none, .slice none 0 0] 34)) w4.heap.size 34 #[.pointer (some ⟨p, 0, none⟩), .pointer (some ⟨m, 0, none⟩), .pointer none, .pointer none, .slice none 0 0] := Blk.new _ _ _
  obtain ⟨bp, hbp⟩ : ∃ bp, bp = w4.heap.size := ⟨_, rfl⟩
  rw [← hbp] at ba
  have hs3 := hd3.only.size
  have hs4 := k4.size
  have hcore : Core5 w (w4.alloc (.cells #[.pointer (some ⟨p, 0, none⟩), .pointer (some ⟨m, 0, none⟩), .pointer none, .pointer none, .slice none 0 0] 34)) bp p m F G (fresh N) (fresh N) (.pointer none) (.pointer none) (.slice none 0 0) :=
    ⟨(hd3.dev.kept k4 (by simp)).kept ka (by simp), href.kept ka (by simp), ba, (hd3.only.trans k4).trans ka, fun j hj => ⟨(hd3.new j hj).1, by have := (hd3.new j hj).2; have := ka.size; omega⟩,
      fun j hj => ⟨by have := (hG j hj).1; omega, by have := (hG j hj).2; have := ka.size; omega⟩, by omega, fun j hj hg => by have := (hd3.new j hj).2; have := (hG j hg).1; omega,
      fun hm => by have := (hd3.new _ hm).2; omega, fun hm => by have := (hG _ hm).2; omega⟩
  go_wp2_with fail
  simp only [← hbp]
  generalize w4.alloc (.cells #[.pointer (some ⟨p, 0, none⟩), .pointer (some ⟨m, 0, none⟩), .pointer none, .pointer none, .slice none 0 0] 34) = w5 at *
  clear ba ka hbp hd3 href hG k4 k3 hs3 hs4
  refine (duoOpen_any w w5 bp p m N 1 F G (fresh N) (fresh N) _ _ _ hcore ⟨rfl, rfl, rfl, .inl rfl⟩ (fresh_firm N) (by simp [fresh]) (by omega)).mono ?_
  rintro e w6 ⟨rfl, hduo⟩
  clear hcore
  go_wp2_with fail
  go_loopw [7] (fun i wr => ∃ k : Nat, k ≤ l.length ∧ k ≤ 30 ∧ i = .int .i64 k ∧ Duo5 w wr bp p m N (k + 1)) (fun i _ => l.length - (intOf i).toNat)
  case atStart => exact ⟨0, Nat.zero_le _, by omega, rfl, hduo⟩
  case round =>
    clear hduo
    obtain ⟨k, hk, hk40, rfl, hduo⟩ := hrel
    have hkw := hduo.only
    by_cases hlt : k < l.length ∧ k < 30
    · obtain ⟨hlt, hlt2⟩ := hlt
      obtain ⟨g, o, rfl, hg, hat⟩ := hA.get hlt
      have hok := hA.2 _ (List.getElem_mem hlt)
      obtain ⟨c0, c1, c2, c3, c4⟩ := hat.kept hkw
      have hdo := fun (W : World) (d : Duo5 w W bp p m N (k + 1)) (hraw : l[k].raw.length ≤ 400) => duoDo_any w W bp p m N (k + 1) l[k] d (by omega) hok hraw
      have hlong := fun W (kk : Only [] w W) => long_any W l[k].A l[k].c l[k].l (hok.chs.kept kk (by simp)) hok.len
      have hrsz : (strOf l[k].raw).size = l[k].raw.length := strOf_size _
      have hatH := Lib.hid hat
      generalize l[k] = x at *
      obtain ⟨kind, num, keep, raw, A4, c4', l4⟩ := x
      simp only at c0 c1 c2 c3 c4 hdo hlong hrsz
      generalize hraw : strOf raw = rs at *
      replace hraw := Lib.hid hraw
      have hat := hatH
      clear hok hatH
      replace hdo := Lib.hid hdo
      replace hlong := Lib.hid hlong
      go_wp2_with fail
      refine (hlong.out _ hkw).mono ?_
      rintro e w7 ⟨⟨lr, rfl, _⟩, k7⟩
      have hd7 := hduo.keep k7
      have b0 := k7.cell c0 (by simp)
      have b1 := k7.cell c1 (by simp)
      have b2 := k7.cell c2 (by simp)
      have b3 := k7.cell c3 (by simp)
      have b4 := k7.cell c4 (by simp)
      have kw7 := hkw.trans k7
      clear hduo c0 c1 c2 c3 c4 k7 hkw hlong
      cases lr with
      | true =>
        clear hdo hd7
        go_wp2_with fail
        refine (halive.out _).mono ?_
        rintro e w8 ⟨rfl, k8⟩
        have kend := kw7.trans k8
        clear k8 kw7 b0 b1 b2 b3 b4
        go_wp2
        go_ret
        exact ⟨rfl, kend⟩
      | false =>
        by_cases hrl : 400 < raw.length
        · have hrI : (400 : Int) < (rs.size : Int) := by omega
          clear hdo hd7
          go_wp2_with fail
          refine (halive.out _).mono ?_
          rintro e w8 ⟨rfl, k8⟩
          have kend := kw7.trans k8
          clear k8 kw7 b0 b1 b2 b3 b4
          go_wp2
          go_ret
          exact ⟨rfl, kend⟩
        · have hrI : ¬ (400 : Int) < (rs.size : Int) := by omega
          have kd : Only [] w7 w7.drew := (Only.refl [] w7).drew
          have hdd := hdo.out w7.drew (hd7.keep kd) (by omega)
          replace hrl := Lib.hid hrl
          replace hrsz := Lib.hid hrsz
          clear hdo hd7
          go_wp2_with fail
          refine wp_region_held_drew (S := fun w' => w'.cell? ⟨g, o + k * 5, none⟩ = some (.int .i64 kind) ∧ w'.cell? ⟨g, o + k * 5 + 1, none⟩ = some (.int .i64 num) ∧ w'.cell? ⟨g, o + k * 5 + 2, none⟩ = some (.int .u64 (keep : Int)) ∧ w'.cell? ⟨g, o + k * 5 + 3, none⟩ = some (.string rs) ∧ w'.cell? ⟨g, o + k * 5 + 4, none⟩ = some (.slice A4 l4.length c4')) (by kernel_rfl) ⟨b0, b1, b2, b3, b4⟩ (fun hHeld => ?_)
          refine held_take 0 (.pointer (some ⟨bp, 0, none⟩)) rfl (by kernel_rfl) (by kernel_rfl) (by kernel_rfl) (fun _ _ _ h => h) hHeld (Or.inl ⟨by rfl, fun w' hSw => by (try dsimp only at hSw); (try subst hSw); go_simp⟩) ?_
          simp only [Act.put, List.setIfInBounds_toArray, List.set_cons_zero, List.set_cons_succ]
          refine held_take 1 (.slice (some ⟨g, o, none⟩) l.length c) rfl (by kernel_rfl) (by kernel_rfl) (by kernel_rfl) (fun _ _ _ h => h) hHeld (Or.inl ⟨by rfl, fun w' hSw => by (try dsimp only at hSw); (try subst hSw); go_simp⟩) ?_
          simp only [Act.put, List.setIfInBounds_toArray, List.set_cons_zero, List.set_cons_succ]
          refine held_take 2 (.int .i64 (k : Int)) rfl (by kernel_rfl) (by kernel_rfl) (by kernel_rfl) (fun _ _ _ h => h) hHeld (Or.inl ⟨by rfl, fun w' hSw => by (try dsimp only at hSw); (try subst hSw); go_simp⟩) ?_
          simp only [Act.put, List.setIfInBounds_toArray, List.set_cons_zero, List.set_cons_succ]
          refine held_take 3 (.pointer (some ⟨g, o + k * 5, none⟩)) rfl (by kernel_rfl) (by kernel_rfl) (by kernel_rfl) (fun _ _ _ h => h) hHeld (Or.inl ⟨by rfl, fun w' hSw => by (try dsimp only at hSw); (try subst hSw); go_simp⟩) ?_
          simp only [Act.put, List.setIfInBounds_toArray, List.set_cons_zero, List.set_cons_succ]
          refine held_take 4 (.agg #[.int .i64 kind, .int .i64 num, .int .u64 (keep : Int), .string rs, .slice A4 l4.length c4']) rfl (by kernel_rfl) (by kernel_rfl) (by kernel_rfl) (fun _ _ _ h => h) hHeld (Or.inl ⟨by rfl, fun w' hSw => by obtain ⟨a0, a1, a2, a3, a4⟩ := hSw; go_simp⟩) ?_
          simp only [Act.put, List.setIfInBounds_toArray, List.set_cons_zero, List.set_cons_succ]
          refine held_step 5 rfl (by kernel_rfl) (fun K hK => ?_)
          go_simp
          go_at_call 14
          refine hdd.mono ?_
          rintro e w8 ⟨rfl, hd8⟩
          obtain ⟨a0, a1, a2, a3, a4⟩ := hat.out.kept hd8.only
          simp only at a0 a1 a2 a3 a4
          rw [hraw.out] at a3
          obtain ⟨v2, L, A5, c5, s2, s4, hel, hL, _, hall⟩ := duo_shows hd8
          have hLU : Hid (L.map chOf = L.map chOf) := rfl
          have hsm := fun W A9 c9 (ka : Only [] w8 W) (hb : Els chE 3 W A9 (L.map chOf)) => rsame_any W A5 A9 c5 c9 L (L.map chOf) (hel.kept ka (by simp)) hb (by omega)
          generalize L.map chOf = U at *
          replace hall := Lib.hid hall
          replace hsm := Lib.hid hsm
          clear b0 b1 b2 b3 b4 hdd kd kw7 hel
          go_wp2_with fail
          refine hK.out _ _ ⟨a0, a1, a2, a3, a4⟩ (fun hHeld => ?_)
          clear hK K
          refine held_more (S' := fun w' => (w'.cell? ⟨bp, 4, none⟩ = some (.slice A5 L.length c5) ∧ w'.cell? ⟨bp, 2, none⟩ = some v2) ∧ (w'.cell? ⟨g, o + k * 5, none⟩ = some (.int .i64 kind) ∧ w'.cell? ⟨g, o + k * 5 + 1, none⟩ = some (.int .i64 num) ∧ w'.cell? ⟨g, o + k * 5 + 2, none⟩ = some (.int .u64 (keep : Int)) ∧ w'.cell? ⟨g, o + k * 5 + 3, none⟩ = some (.string rs) ∧ w'.cell? ⟨g, o + k * 5 + 4, none⟩ = some (.slice A4 l4.length c4'))) (fun w' hw' => hw'.2) _ _ _ _ ?_
          clear hHeld
          have hHeld : (fun w' : World => (w'.cell? ⟨bp, 4, none⟩ = some (.slice A5 L.length c5) ∧ w'.cell? ⟨bp, 2, none⟩ = some v2) ∧ (w'.cell? ⟨g, o + k * 5, none⟩ = some (.int .i64 kind) ∧ w'.cell? ⟨g, o + k * 5 + 1, none⟩ = some (.int .i64 num) ∧ w'.cell? ⟨g, o + k * 5 + 2, none⟩ = some (.int .u64 (keep : Int)) ∧ w'.cell? ⟨g, o + k * 5 + 3, none⟩ = some (.string rs) ∧ w'.cell? ⟨g, o + k * 5 + 4, none⟩ = some (.slice A4 l4.length c4'))) w8 := ⟨⟨s4, s2⟩, a0, a1, a2, a3, a4⟩
          refine held_take 6 (.bool false) rfl (by kernel_rfl) (by kernel_rfl) (by kernel_rfl) (fun _ _ _ h => h) hHeld (Or.inl ⟨by rfl, fun w' hSw => by (try dsimp only at hSw); (try subst hSw); go_simp⟩) ?_
          simp only [Act.put, List.setIfInBounds_toArray, List.set_cons_zero, List.set_cons_succ]
          refine held_take 7 (.bool false) rfl (by kernel_rfl) (by kernel_rfl) (by kernel_rfl) (fun _ _ _ h => h) hHeld (Or.inl ⟨by rfl, fun w' hSw => by (try dsimp only at hSw); (try subst hSw); go_simp⟩) ?_
          simp only [Act.put, List.setIfInBounds_toArray, List.set_cons_zero, List.set_cons_succ]
          refine held_take 8 (.pointer (some ⟨bp, 0, none⟩)) rfl (by kernel_rfl) (by kernel_rfl) (by kernel_rfl) (fun _ _ _ h => h) hHeld (Or.inl ⟨by rfl, fun w' hSw => by (try dsimp only at hSw); (try subst hSw); go_simp⟩) ?_
          simp only [Act.put, List.setIfInBounds_toArray, List.set_cons_zero, List.set_cons_succ]
          refine held_take 9 (.pointer (some ⟨bp, 0, none⟩)) rfl (by kernel_rfl) (by kernel_rfl) (by kernel_rfl) (fun _ _ _ h => h) hHeld (Or.inl ⟨by rfl, fun w' hSw => by (try dsimp only at hSw); (try subst hSw); go_simp⟩) ?_
          simp only [Act.put, List.setIfInBounds_toArray, List.set_cons_zero, List.set_cons_succ]
          refine held_take 10 (.pointer (some ⟨bp, 4, none⟩)) rfl (by kernel_rfl) (by kernel_rfl) (by kernel_rfl) (fun _ _ _ h => h) hHeld (Or.inl ⟨by rfl, fun w' hSw => by (try dsimp only at hSw); (try subst hSw); go_simp⟩) ?_
          simp only [Act.put, List.setIfInBounds_toArray, List.set_cons_zero, List.set_cons_succ]
          refine held_take 11 (.slice A5 L.length c5) rfl (by kernel_rfl) (by kernel_rfl) (by kernel_rfl) (fun _ _ _ h => h) hHeld (Or.inl ⟨by rfl, fun w' hSw => by obtain ⟨⟨t4, t2⟩, _⟩ := hSw; go_simp⟩) ?_
          simp only [Act.put, List.setIfInBounds_toArray, List.set_cons_zero, List.set_cons_succ]
          refine held_take 12 (.pointer (some ⟨bp, 0, none⟩)) rfl (by kernel_rfl) (by kernel_rfl) (by kernel_rfl) (fun _ _ _ h => h) hHeld (Or.inl ⟨by rfl, fun w' hSw => by (try dsimp only at hSw); (try subst hSw); go_simp⟩) ?_
          simp only [Act.put, List.setIfInBounds_toArray, List.set_cons_zero, List.set_cons_succ]
          refine held_take 13 (.pointer (some ⟨bp, 0, none⟩)) rfl (by kernel_rfl) (by kernel_rfl) (by kernel_rfl) (fun _ _ _ h => h) hHeld (Or.inl ⟨by rfl, fun w' hSw => by (try dsimp only at hSw); (try subst hSw); go_simp⟩) ?_
          simp only [Act.put, List.setIfInBounds_toArray, List.set_cons_zero, List.set_cons_succ]
          refine held_take 14 (.pointer (some ⟨bp, 2, none⟩)) rfl (by kernel_rfl) (by kernel_rfl) (by kernel_rfl) (fun _ _ _ h => h) hHeld (Or.inl ⟨by rfl, fun w' hSw => by (try dsimp only at hSw); (try subst hSw); go_simp⟩) ?_
          simp only [Act.put, List.setIfInBounds_toArray, List.set_cons_zero, List.set_cons_succ]
          refine held_take 15 (v2) rfl (by kernel_rfl) (by kernel_rfl) (by kernel_rfl) (fun _ _ _ h => h) hHeld (Or.inl ⟨by rfl, fun w' hSw => by obtain ⟨⟨t4, t2⟩, _⟩ := hSw; go_simp⟩) ?_
          simp only [Act.put, List.setIfInBounds_toArray, List.set_cons_zero, List.set_cons_succ]
          refine held_step 16 rfl (by kernel_rfl) (fun K hK => ?_)
          go_simp
          go_at_call 16
          refine (hall.out w8 (Only.refl _ _)).mono ?_
          rintro e w9 ⟨A9, c9, rfl, he9, k9⟩
          have hS9 := And.intro (And.intro (k9.cell s4 (by simp)) (k9.cell s2 (by simp))) (And.intro (k9.cell a0 (by simp)) (And.intro (k9.cell a1 (by simp)) (And.intro (k9.cell a2 (by simp)) (And.intro (k9.cell a3 (by simp)) (k9.cell a4 (by simp))))))
          have hs9 := hsm.out w9 A9 c9 k9 he9
          have hd9 := hd8.keep k9
          clear a0 a1 a2 a3 a4 s2 s4 hd8 hall he9 hsm k9
          go_wp2_with fail
          refine hK.out _ _ hS9 (fun hHeld => ?_)
          clear hK K
          refine held_step 17 rfl (by kernel_rfl) (fun K hK => ?_)
          go_simp
          go_at_call 15
          refine hs9.mono ?_
          rintro e w10 ⟨⟨b, rfl, hb⟩, k10⟩
          obtain rfl : b = true := hb.2 hLU.out
          have hS10 := And.intro (And.intro (k10.cell hS9.1.1 (by simp)) (k10.cell hS9.1.2 (by simp))) (And.intro (k10.cell hS9.2.1 (by simp)) (And.intro (k10.cell hS9.2.2.1 (by simp)) (And.intro (k10.cell hS9.2.2.2.1 (by simp)) (And.intro (k10.cell hS9.2.2.2.2.1 (by simp)) (k10.cell hS9.2.2.2.2.2 (by simp))))))
          have hd10 := hd9.keep k10
          clear hS9 hd9 k10 hb hs9
          go_wp2_with fail
          refine hK.out _ _ hS10 (fun hHeld => ?_)
          clear hK K
          refine held_take 18 (.bool false) rfl (by kernel_rfl) (by kernel_rfl) (by kernel_rfl) (fun _ _ _ h => h) hHeld (Or.inl ⟨by rfl, fun w' hSw => by (try dsimp only at hSw); (try subst hSw); go_simp⟩) ?_
          simp only [Act.put, List.setIfInBounds_toArray, List.set_cons_zero, List.set_cons_succ]
          refine held_take 19 (.bool false) rfl (by kernel_rfl) (by kernel_rfl) (by kernel_rfl) (fun _ _ _ h => h) hHeld (Or.inl ⟨by rfl, fun w' hSw => by (try dsimp only at hSw); (try subst hSw); go_simp⟩) ?_
          simp only [Act.put, List.setIfInBounds_toArray, List.set_cons_zero, List.set_cons_succ]
          refine wpAnyH_done (by kernel_rfl) ?_ _
          clear hHeld
          clear hS10
          cases hd10 with
          | none F G s t h0 like len late =>
            obtain ⟨_, _, _, c3, _⟩ := h0.cells
            have hd11 := fun n => Lib.hid ((Duo5.none F G s t h0 like len late).keep ((Only.refl [] w10).drewN n))
            clear h0 like len late
            go_wp2_with fail
            go_quiet (fail)
            have hd12 := hd11 nq
            clear hd11 c3
            go_wp2
            go_loopw [8] (fun i wr' => ∃ v : Nat, v ≤ N ∧ i = .int .i64 v ∧ Duo5 w wr' bp p m N (k + 2)) (fun i _ => N - (intOf i).toNat)
            case atStart => exact ⟨0, Nat.zero_le _, rfl, hd12.out⟩
            case round =>
              clear hd12
              obtain ⟨v, hv, rfl, hd7⟩ := hrel
              by_cases hlv : v < N
              · obtain ⟨F, G, s, t, v2, v3, v4, hc, like, len, _, _⟩ := hd7.parts
                obtain ⟨e0, e1, _, _, _⟩ := hc.cells
                obtain ⟨gf, cf, Al, cl, r0, _, _, _, rk⟩ := hc.ref.cells (by rw [← like.1, len]; omega)
                have rv := rk v (by rw [← like.1, len]; exact hlv)
                rw [← like.1, len] at r0
                rw [← like.1] at rv
                have hset := settled_any wr p F s v hc.dev
                have hf : firmB s (v : Int) = s.firm.getD v [] := by
                  have hh : hasBlock s.firm.length (v : Int) = true := by rw [len]; simp only [hasBlock, decide_eq_true_eq]; omega
                  rw [firmB, if_neg (by rw [hh]; decide), Int.toNat_natCast]
                rw [hf] at hset
                have hset2 : ∀ W, Only [] wr W → Calls Tryz.prog 18 #[.pointer (some ⟨p, 0, none⟩), .int .i64 (v : Int)] W fun e w' => e = .returned (.string (strOf (s.firm.getD v []))) ∧ w' = W := fun W kw => by
                  have := settled_any W p F s v (hc.dev.kept kw (by simp))
                  rwa [hf] at this
                generalize strOf (s.firm.getD v []) = y at *
                replace hset2 := Lib.hid hset2
                clear hset hf rk hc like len
                replace hd7 := Lib.hid hd7
                have hvN : (v : Int) < (N : Int) := by omega
                go_wp2_with fail
                have kd : Only [] wr wr.drew := (Only.refl [] wr).drew
                refine wp_region_held_drew (S := fun w' => w'.cell? ⟨bp, 0, none⟩ = some (.pointer (some ⟨p, 0, none⟩)) ∧ w'.cell? ⟨bp, 1, none⟩ = some (.pointer (some ⟨m, 0, none⟩)) ∧ w'.cell? ⟨m, 0, none⟩ = some (.slice (some ⟨gf, 0, none⟩) N cf) ∧ w'.cell? ⟨gf, v, none⟩ = some (.string y)) (by kernel_rfl) ⟨e0, e1, r0, rv⟩ (fun hHeld => ?_)
                refine held_take 0 (.pointer (some ⟨bp, 0, none⟩)) rfl (by kernel_rfl) (by kernel_rfl) (by kernel_rfl) (fun _ _ _ h => h) hHeld (Or.inl ⟨by rfl, fun w' hSw => by (try dsimp only at hSw); (try subst hSw); go_simp⟩) ?_
                simp only [Act.put, List.setIfInBounds_toArray, List.set_cons_zero, List.set_cons_succ]
                refine held_take 1 (.pointer (some ⟨bp, 0, none⟩)) rfl (by kernel_rfl) (by kernel_rfl) (by kernel_rfl) (fun _ _ _ h => h) hHeld (Or.inl ⟨by rfl, fun w' hSw => by (try dsimp only at hSw); (try subst hSw); go_simp⟩) ?_
                simp only [Act.put, List.setIfInBounds_toArray, List.set_cons_zero, List.set_cons_succ]
                refine held_take 2 (.pointer (some ⟨bp, 0, none⟩)) rfl (by kernel_rfl) (by kernel_rfl) (by kernel_rfl) (fun _ _ _ h => h) hHeld (Or.inl ⟨by rfl, fun w' hSw => by (try dsimp only at hSw); (try subst hSw); go_simp⟩) ?_
                simp only [Act.put, List.setIfInBounds_toArray, List.set_cons_zero, List.set_cons_succ]
                refine held_take 3 (.pointer (some ⟨p, 0, none⟩)) rfl (by kernel_rfl) (by kernel_rfl) (by kernel_rfl) (fun _ _ _ h => h) hHeld (Or.inl ⟨by rfl, fun w' hSw => by (try dsimp only at hSw); (try subst hSw); go_simp⟩) ?_
                simp only [Act.put, List.setIfInBounds_toArray, List.set_cons_zero, List.set_cons_succ]
                refine held_take 4 (.int .i64 (v : Int)) rfl (by kernel_rfl) (by kernel_rfl) (by kernel_rfl) (fun _ _ _ h => h) hHeld (Or.inl ⟨by rfl, fun w' hSw => by (try dsimp only at hSw); (try subst hSw); go_simp⟩) ?_
                simp only [Act.put, List.setIfInBounds_toArray, List.set_cons_zero, List.set_cons_succ]
                refine held_take 6 (.pointer (some ⟨bp, 0, none⟩)) rfl (by kernel_rfl) (by kernel_rfl) (by kernel_rfl) (fun _ _ _ h => h) hHeld (Or.inl ⟨by rfl, fun w' hSw => by (try dsimp only at hSw); (try subst hSw); go_simp⟩) ?_
                simp only [Act.put, List.setIfInBounds_toArray, List.set_cons_zero, List.set_cons_succ]
                refine held_take 7 (.pointer (some ⟨bp, 0, none⟩)) rfl (by kernel_rfl) (by kernel_rfl) (by kernel_rfl) (fun _ _ _ h => h) hHeld (Or.inl ⟨by rfl, fun w' hSw => by (try dsimp only at hSw); (try subst hSw); go_simp⟩) ?_
                simp only [Act.put, List.setIfInBounds_toArray, List.set_cons_zero, List.set_cons_succ]
                refine held_take 8 (.pointer (some ⟨bp, 1, none⟩)) rfl (by kernel_rfl) (by kernel_rfl) (by kernel_rfl) (fun _ _ _ h => h) hHeld (Or.inl ⟨by rfl, fun w' hSw => by (try dsimp only at hSw); (try subst hSw); go_simp⟩) ?_
                simp only [Act.put, List.setIfInBounds_toArray, List.set_cons_zero, List.set_cons_succ]
                refine held_take 9 (.pointer (some ⟨m, 0, none⟩)) rfl (by kernel_rfl) (by kernel_rfl) (by kernel_rfl) (fun _ _ _ h => h) hHeld (Or.inl ⟨by rfl, fun w' hSw => by (try dsimp only at hSw); (try subst hSw); go_simp⟩) ?_
                simp only [Act.put, List.setIfInBounds_toArray, List.set_cons_zero, List.set_cons_succ]
                refine held_take 10 (.pointer (some ⟨m, 0, none⟩)) rfl (by kernel_rfl) (by kernel_rfl) (by kernel_rfl) (fun _ _ _ h => h) hHeld (Or.inl ⟨by rfl, fun w' hSw => by (try dsimp only at hSw); (try subst hSw); go_simp⟩) ?_
                simp only [Act.put, List.setIfInBounds_toArray, List.set_cons_zero, List.set_cons_succ]
                refine held_take 11 (.pointer (some ⟨m, 0, none⟩)) rfl (by kernel_rfl) (by kernel_rfl) (by kernel_rfl) (fun _ _ _ h => h) hHeld (Or.inl ⟨by rfl, fun w' hSw => by (try dsimp only at hSw); (try subst hSw); go_simp⟩) ?_
                simp only [Act.put, List.setIfInBounds_toArray, List.set_cons_zero, List.set_cons_succ]
                refine held_take 12 (.slice (some ⟨gf, 0, none⟩) N cf) rfl (by kernel_rfl) (by kernel_rfl) (by kernel_rfl) (fun _ _ _ h => h) hHeld (Or.inl ⟨by rfl, fun w' hSw => by (try dsimp only at hSw); (try subst hSw); go_simp⟩) ?_
                simp only [Act.put, List.setIfInBounds_toArray, List.set_cons_zero, List.set_cons_succ]
                refine held_take 13 (.int .i64 (v : Int)) rfl (by kernel_rfl) (by kernel_rfl) (by kernel_rfl) (fun _ _ _ h => h) hHeld (Or.inl ⟨by rfl, fun w' hSw => by (try dsimp only at hSw); (try subst hSw); go_simp⟩) ?_
                simp only [Act.put, List.setIfInBounds_toArray, List.set_cons_zero, List.set_cons_succ]
                refine held_take 14 (.pointer (some ⟨gf, v, none⟩)) rfl (by kernel_rfl) (by kernel_rfl) (by kernel_rfl) (fun _ _ _ h => h) hHeld (Or.inl ⟨by rfl, fun w' hSw => by (try dsimp only at hSw); (try subst hSw); go_simp⟩) ?_
                simp only [Act.put, List.setIfInBounds_toArray, List.set_cons_zero, List.set_cons_succ]
                refine held_take 15 (.string y) rfl (by kernel_rfl) (by kernel_rfl) (by kernel_rfl) (fun _ _ _ h => h) hHeld (Or.inl ⟨by rfl, fun w' hSw => by (try dsimp only at hSw); (try subst hSw); go_simp⟩) ?_
                simp only [Act.put, List.setIfInBounds_toArray, List.set_cons_zero, List.set_cons_succ]
                refine held_step 5 rfl (by kernel_rfl) (fun K hK => ?_)
                go_simp
                go_at_call 18
                refine (hset2.out _ kd).mono ?_
                rintro e w8 ⟨rfl, rfl⟩
                go_wp2_with fail
                refine hK.out _ _ ⟨e0, e1, r0, rv⟩ (fun hHeld => ?_)
                clear hK K
                refine held_take 16 (.bool false) rfl (by kernel_rfl) (by kernel_rfl) (by kernel_rfl) (fun _ _ _ h => h) hHeld (Or.inl ⟨by rfl, fun w' hSw => by (try dsimp only at hSw); (try subst hSw); go_simp⟩) ?_
                simp only [Act.put, List.setIfInBounds_toArray, List.set_cons_zero, List.set_cons_succ]
                refine wpAnyH_done (by kernel_rfl) ?_ _
                clear hHeld
                have hd8 := Lib.hid (hd7.out.keep kd)
                clear hset2 e0 e1 r0 rv hd7
                go_wp2
                go_roundw
                case rel => exact ⟨v + 1, by omega, by go_num, hd8.out⟩
                case measure => simp [intOf]; omega
              · have hge : (N : Int) ≤ v := by omega
                replace hd7 := Lib.hid hd7
                go_wp2
                go_roundw
                case rel => exact ⟨k + 1, by omega, by omega, by go_num, hd7.out⟩
                case measure => simp [intOf]; omega
          | some F G s t lp xp rp mb n f M v4 h0 rest like len late few big good =>
            obtain ⟨A6, c6, hv4, _, _, _, _⟩ := rest.doc.shape rwE_length
            subst hv4
            obtain ⟨_, _, c2, c3, c4⟩ := h0.cells
            have hMl := good.length
            have kd : Only [] w10 w10.drew := (Only.refl [] w10).drew
            have hfree := free_any w10.drew rp mb lp p n f F s M (rest.keep kd).rows (rest.keep kd).log (h0.keep kd).dev (by omega)
            rw [len] at hfree
            have hd11 := (Duo5.some F G s t lp xp rp mb n f M _ h0 rest like len late few big good).keep kd
            obtain ⟨M41, hM41⟩ : ∃ M41 : Int, M41 = (N : Int) - 41 := ⟨_, rfl⟩
            obtain ⟨D, hD⟩ : ∃ D : Int, D = M41 - (M.length : Int) := ⟨_, rfl⟩
            rw [← hM41, ← hD] at hfree
            have hw1 : IntKind.i64.wrap ((N : Int) - 41) = M41 := by rw [hM41, IntKind.wrap_i64]; omega
            have hw2 : IntKind.i64.wrap (M41 - (M.length : Int)) = D := by rw [hD, hM41, IntKind.wrap_i64]; omega
            replace hM41 := Lib.hid hM41
            replace hD := Lib.hid hD
            replace hd11 := Lib.hid hd11
            replace hfree := Lib.hid hfree
            clear h0 rest like len late few big good
            go_wp2_with fail
            refine wp_region_held_drew (S := fun w' => w'.cell? ⟨bp, 2, none⟩ = some (.pointer (some ⟨rp, 0, none⟩)) ∧ w'.cell? ⟨bp, 3, none⟩ = some (.pointer (some ⟨xp, 0, none⟩)) ∧ w'.cell? ⟨bp, 4, none⟩ = some (.slice A6 M.length c6)) (by kernel_rfl) ⟨c2, c3, c4⟩ (fun hHeld => ?_)
            refine held_take 0 (.pointer (some ⟨bp, 0, none⟩)) rfl (by kernel_rfl) (by kernel_rfl) (by kernel_rfl) (fun _ _ _ h => h) hHeld (Or.inl ⟨by rfl, fun w' hSw => by (try dsimp only at hSw); (try subst hSw); go_simp⟩) ?_
            simp only [Act.put, List.setIfInBounds_toArray, List.set_cons_zero, List.set_cons_succ]
            refine held_take 1 (.pointer (some ⟨bp, 0, none⟩)) rfl (by kernel_rfl) (by kernel_rfl) (by kernel_rfl) (fun _ _ _ h => h) hHeld (Or.inl ⟨by rfl, fun w' hSw => by (try dsimp only at hSw); (try subst hSw); go_simp⟩) ?_
            simp only [Act.put, List.setIfInBounds_toArray, List.set_cons_zero, List.set_cons_succ]
            refine held_take 2 (.pointer (some ⟨bp, 3, none⟩)) rfl (by kernel_rfl) (by kernel_rfl) (by kernel_rfl) (fun _ _ _ h => h) hHeld (Or.inl ⟨by rfl, fun w' hSw => by (try dsimp only at hSw); (try subst hSw); go_simp⟩) ?_
            simp only [Act.put, List.setIfInBounds_toArray, List.set_cons_zero, List.set_cons_succ]
            refine held_take 3 (.pointer (some ⟨xp, 0, none⟩)) rfl (by kernel_rfl) (by kernel_rfl) (by kernel_rfl) (fun _ _ _ h => h) hHeld (Or.inl ⟨by rfl, fun w' hSw => by (try dsimp only at hSw); (try subst hSw); go_simp⟩) ?_
            simp only [Act.put, List.setIfInBounds_toArray, List.set_cons_zero, List.set_cons_succ]
            refine held_take 4 (.bool true) rfl (by kernel_rfl) (by kernel_rfl) (by kernel_rfl) (fun _ _ _ h => h) hHeld (Or.inl ⟨by rfl, fun w' hSw => by (try dsimp only at hSw); (try subst hSw); go_simp⟩) ?_
            simp only [Act.put, List.setIfInBounds_toArray, List.set_cons_zero, List.set_cons_succ]
            refine held_take 5 (.bool true) rfl (by kernel_rfl) (by kernel_rfl) (by kernel_rfl) (fun _ _ _ h => h) hHeld (Or.inl ⟨by rfl, fun w' hSw => by (try dsimp only at hSw); (try subst hSw); go_simp⟩) ?_
            simp only [Act.put, List.setIfInBounds_toArray, List.set_cons_zero, List.set_cons_succ]
            refine held_take 6 (.pointer (some ⟨bp, 0, none⟩)) rfl (by kernel_rfl) (by kernel_rfl) (by kernel_rfl) (fun _ _ _ h => h) hHeld (Or.inl ⟨by rfl, fun w' hSw => by (try dsimp only at hSw); (try subst hSw); go_simp⟩) ?_
            simp only [Act.put, List.setIfInBounds_toArray, List.set_cons_zero, List.set_cons_succ]
            refine held_take 7 (.pointer (some ⟨bp, 0, none⟩)) rfl (by kernel_rfl) (by kernel_rfl) (by kernel_rfl) (fun _ _ _ h => h) hHeld (Or.inl ⟨by rfl, fun w' hSw => by (try dsimp only at hSw); (try subst hSw); go_simp⟩) ?_
            simp only [Act.put, List.setIfInBounds_toArray, List.set_cons_zero, List.set_cons_succ]
            refine held_take 8 (.pointer (some ⟨bp, 2, none⟩)) rfl (by kernel_rfl) (by kernel_rfl) (by kernel_rfl) (fun _ _ _ h => h) hHeld (Or.inl ⟨by rfl, fun w' hSw => by (try dsimp only at hSw); (try subst hSw); go_simp⟩) ?_
            simp only [Act.put, List.setIfInBounds_toArray, List.set_cons_zero, List.set_cons_succ]
            refine held_take 9 (.pointer (some ⟨rp, 0, none⟩)) rfl (by kernel_rfl) (by kernel_rfl) (by kernel_rfl) (fun _ _ _ h => h) hHeld (Or.inl ⟨by rfl, fun w' hSw => by (try dsimp only at hSw); (try subst hSw); go_simp⟩) ?_
            simp only [Act.put, List.setIfInBounds_toArray, List.set_cons_zero, List.set_cons_succ]
            refine held_take 11 (.int .i64 (N : Int)) rfl (by kernel_rfl) (by kernel_rfl) (by kernel_rfl) (fun _ _ _ h => h) hHeld (Or.inl ⟨by rfl, fun w' hSw => by (try dsimp only at hSw); (try subst hSw); go_simp⟩) ?_
            simp only [Act.put, List.setIfInBounds_toArray, List.set_cons_zero, List.set_cons_succ]
            refine held_take 12 (.int .i64 M41) rfl (by kernel_rfl) (by kernel_rfl) (by kernel_rfl) (fun _ _ _ h => h) hHeld (Or.inl ⟨by rfl, fun w' hSw => by (try dsimp only at hSw); (try subst hSw); go_simp⟩) ?_
            simp only [Act.put, List.setIfInBounds_toArray, List.set_cons_zero, List.set_cons_succ]
            refine held_take 13 (.pointer (some ⟨bp, 0, none⟩)) rfl (by kernel_rfl) (by kernel_rfl) (by kernel_rfl) (fun _ _ _ h => h) hHeld (Or.inl ⟨by rfl, fun w' hSw => by (try dsimp only at hSw); (try subst hSw); go_simp⟩) ?_
            simp only [Act.put, List.setIfInBounds_toArray, List.set_cons_zero, List.set_cons_succ]
            refine held_take 14 (.pointer (some ⟨bp, 0, none⟩)) rfl (by kernel_rfl) (by kernel_rfl) (by kernel_rfl) (fun _ _ _ h => h) hHeld (Or.inl ⟨by rfl, fun w' hSw => by (try dsimp only at hSw); (try subst hSw); go_simp⟩) ?_
            simp only [Act.put, List.setIfInBounds_toArray, List.set_cons_zero, List.set_cons_succ]
            refine held_take 15 (.pointer (some ⟨bp, 4, none⟩)) rfl (by kernel_rfl) (by kernel_rfl) (by kernel_rfl) (fun _ _ _ h => h) hHeld (Or.inl ⟨by rfl, fun w' hSw => by (try dsimp only at hSw); (try subst hSw); go_simp⟩) ?_
            simp only [Act.put, List.setIfInBounds_toArray, List.set_cons_zero, List.set_cons_succ]
            refine held_take 16 (.slice A6 M.length c6) rfl (by kernel_rfl) (by kernel_rfl) (by kernel_rfl) (fun _ _ _ h => h) hHeld (Or.inl ⟨by rfl, fun w' hSw => by (try dsimp only at hSw); (try subst hSw); go_simp⟩) ?_
            simp only [Act.put, List.setIfInBounds_toArray, List.set_cons_zero, List.set_cons_succ]
            refine held_take 17 (.int .i64 (M.length : Int)) rfl (by kernel_rfl) (by kernel_rfl) (by kernel_rfl) (fun _ _ _ h => h) hHeld (Or.inl ⟨by rfl, fun w' hSw => by (try dsimp only at hSw); (try subst hSw); go_simp⟩) ?_
            simp only [Act.put, List.setIfInBounds_toArray, List.set_cons_zero, List.set_cons_succ]
            refine held_take 18 (.int .i64 D) rfl (by kernel_rfl) (by kernel_rfl) (by kernel_rfl) (fun _ _ _ h => h) hHeld (Or.inl ⟨by rfl, fun w' hSw => by (try dsimp only at hSw); (try subst hSw); go_simp⟩) ?_
            simp only [Act.put, List.setIfInBounds_toArray, List.set_cons_zero, List.set_cons_succ]
            refine held_step 10 rfl (by kernel_rfl) (fun K hK => ?_)
            go_simp
            go_at_call 17
            refine hfree.out.mono ?_
            rintro e w11 ⟨rfl, k11⟩
            have hd12 := Lib.hid (hd11.out.keep k11)
            have hS11 := And.intro (k11.cell (kd.cell c2 (by simp)) (by simp)) (And.intro (k11.cell (kd.cell c3 (by simp)) (by simp)) (k11.cell (kd.cell c4 (by simp)) (by simp)))
            clear hd11 k11 c2 c3 c4 kd hfree
            go_wp2_with fail
            refine hK.out _ _ hS11 (fun hHeld => ?_)
            clear hK K
            refine held_take 19 (.bool false) rfl (by kernel_rfl) (by kernel_rfl) (by kernel_rfl) (fun _ _ _ h => h) hHeld (Or.inl ⟨by rfl, fun w' hSw => by (try dsimp only at hSw); (try subst hSw); go_simp⟩) ?_
            simp only [Act.put, List.setIfInBounds_toArray, List.set_cons_zero, List.set_cons_succ]
            refine held_take 20 (.bool false) rfl (by kernel_rfl) (by kernel_rfl) (by kernel_rfl) (fun _ _ _ h => h) hHeld (Or.inl ⟨by rfl, fun w' hSw => by (try dsimp only at hSw); (try subst hSw); go_simp⟩) ?_
            simp only [Act.put, List.setIfInBounds_toArray, List.set_cons_zero, List.set_cons_succ]
            refine wpAnyH_done (by kernel_rfl) ?_ _
            clear hHeld
            clear hS11 hw1 hw2
            go_wp2
            go_loopw [8] (fun i wr' => ∃ v : Nat, v ≤ N ∧ i = .int .i64 v ∧ Duo5 w wr' bp p m N (k + 2)) (fun i _ => N - (intOf i).toNat)
            case atStart => exact ⟨0, Nat.zero_le _, rfl, hd12.out⟩
            case round =>
              clear hd12
              obtain ⟨v, hv, rfl, hd7⟩ := hrel
              by_cases hlv : v < N
              · obtain ⟨F, G, s, t, v2, v3, v4, hc, like, len, _, _⟩ := hd7.parts
                obtain ⟨e0, e1, _, _, _⟩ := hc.cells
                obtain ⟨gf, cf, Al, cl, r0, _, _, _, rk⟩ := hc.ref.cells (by rw [← like.1, len]; omega)
                have rv := rk v (by rw [← like.1, len]; exact hlv)
                rw [← like.1, len] at r0
                rw [← like.1] at rv
                have hset := settled_any wr p F s v hc.dev
                have hf : firmB s (v : Int) = s.firm.getD v [] := by
                  have hh : hasBlock s.firm.length (v : Int) = true := by rw [len]; simp only [hasBlock, decide_eq_true_eq]; omega
                  rw [firmB, if_neg (by rw [hh]; decide), Int.toNat_natCast]
                rw [hf] at hset
                have hset2 : ∀ W, Only [] wr W → Calls Tryz.prog 18 #[.pointer (some ⟨p, 0, none⟩), .int .i64 (v : Int)] W fun e w' => e = .returned (.string (strOf (s.firm.getD v []))) ∧ w' = W := fun W kw => by
                  have := settled_any W p F s v (hc.dev.kept kw (by simp))
                  rwa [hf] at this
                generalize strOf (s.firm.getD v []) = y at *
                replace hset2 := Lib.hid hset2
                clear hset hf rk hc like len
                replace hd7 := Lib.hid hd7
                have hvN : (v : Int) < (N : Int) := by omega
                go_wp2_with fail
                have kd : Only [] wr wr.drew := (Only.refl [] wr).drew
                refine wp_region_held_drew (S := fun w' => w'.cell? ⟨bp, 0, none⟩ = some (.pointer (some ⟨p, 0, none⟩)) ∧ w'.cell? ⟨bp, 1, none⟩ = some (.pointer (some ⟨m, 0, none⟩)) ∧ w'.cell? ⟨m, 0, none⟩ = some (.slice (some ⟨gf, 0, none⟩) N cf) ∧ w'.cell? ⟨gf, v, none⟩ = some (.string y)) (by kernel_rfl) ⟨e0, e1, r0, rv⟩ (fun hHeld => ?_)
                refine held_take 0 (.pointer (some ⟨bp, 0, none⟩)) rfl (by kernel_rfl) (by kernel_rfl) (by kernel_rfl) (fun _ _ _ h => h) hHeld (Or.inl ⟨by rfl, fun w' hSw => by (try dsimp only at hSw); (try subst hSw); go_simp⟩) ?_
                simp only [Act.put, List.setIfInBounds_toArray, List.set_cons_zero, List.set_cons_succ]
                refine held_take 1 (.pointer (some ⟨bp, 0, none⟩)) rfl (by kernel_rfl) (by kernel_rfl) (by kernel_rfl) (fun _ _ _ h => h) hHeld (Or.inl ⟨by rfl, fun w' hSw => by (try dsimp only at hSw); (try subst hSw); go_simp⟩) ?_
                simp only [Act.put, List.setIfInBounds_toArray, List.set_cons_zero, List.set_cons_succ]
                refine held_take 2 (.pointer (some ⟨bp, 0, none⟩)) rfl (by kernel_rfl) (by kernel_rfl) (by kernel_rfl) (fun _ _ _ h => h) hHeld (Or.inl ⟨by rfl, fun w' hSw => by (try dsimp only at hSw); (try subst hSw); go_simp⟩) ?_
                simp only [Act.put, List.setIfInBounds_toArray, List.set_cons_zero, List.set_cons_succ]
                refine held_take 3 (.pointer (some ⟨p, 0, none⟩)) rfl (by kernel_rfl) (by kernel_rfl) (by kernel_rfl) (fun _ _ _ h => h) hHeld (Or.inl ⟨by rfl, fun w' hSw => by (try dsimp only at hSw); (try subst hSw); go_simp⟩) ?_
                simp only [Act.put, List.setIfInBounds_toArray, List.set_cons_zero, List.set_cons_succ]
                refine held_take 4 (.int .i64 (v : Int)) rfl (by kernel_rfl) (by kernel_rfl) (by kernel_rfl) (fun _ _ _ h => h) hHeld (Or.inl ⟨by rfl, fun w' hSw => by (try dsimp only at hSw); (try subst hSw); go_simp⟩) ?_
                simp only [Act.put, List.setIfInBounds_toArray, List.set_cons_zero, List.set_cons_succ]
                refine held_take 6 (.pointer (some ⟨bp, 0, none⟩)) rfl (by kernel_rfl) (by kernel_rfl) (by kernel_rfl) (fun _ _ _ h => h) hHeld (Or.inl ⟨by rfl, fun w' hSw => by (try dsimp only at hSw); (try subst hSw); go_simp⟩) ?_
                simp only [Act.put, List.setIfInBounds_toArray, List.set_cons_zero, List.set_cons_succ]
                refine held_take 7 (.pointer (some ⟨bp, 0, none⟩)) rfl (by kernel_rfl) (by kernel_rfl) (by kernel_rfl) (fun _ _ _ h => h) hHeld (Or.inl ⟨by rfl, fun w' hSw => by (try dsimp only at hSw); (try subst hSw); go_simp⟩) ?_
                simp only [Act.put, List.setIfInBounds_toArray, List.set_cons_zero, List.set_cons_succ]
                refine held_take 8 (.pointer (some ⟨bp, 1, none⟩)) rfl (by kernel_rfl) (by kernel_rfl) (by kernel_rfl) (fun _ _ _ h => h) hHeld (Or.inl ⟨by rfl, fun w' hSw => by (try dsimp only at hSw); (try subst hSw); go_simp⟩) ?_
                simp only [Act.put, List.setIfInBounds_toArray, List.set_cons_zero, List.set_cons_succ]
                refine held_take 9 (.pointer (some ⟨m, 0, none⟩)) rfl (by kernel_rfl) (by kernel_rfl) (by kernel_rfl) (fun _ _ _ h => h) hHeld (Or.inl ⟨by rfl, fun w' hSw => by (try dsimp only at hSw); (try subst hSw); go_simp⟩) ?_
                simp only [Act.put, List.setIfInBounds_toArray, List.set_cons_zero, List.set_cons_succ]
                refine held_take 10 (.pointer (some ⟨m, 0, none⟩)) rfl (by kernel_rfl) (by kernel_rfl) (by kernel_rfl) (fun _ _ _ h => h) hHeld (Or.inl ⟨by rfl, fun w' hSw => by (try dsimp only at hSw); (try subst hSw); go_simp⟩) ?_
                simp only [Act.put, List.setIfInBounds_toArray, List.set_cons_zero, List.set_cons_succ]
                refine held_take 11 (.pointer (some ⟨m, 0, none⟩)) rfl (by kernel_rfl) (by kernel_rfl) (by kernel_rfl) (fun _ _ _ h => h) hHeld (Or.inl ⟨by rfl, fun w' hSw => by (try dsimp only at hSw); (try subst hSw); go_simp⟩) ?_
                simp only [Act.put, List.setIfInBounds_toArray, List.set_cons_zero, List.set_cons_succ]
                refine held_take 12 (.slice (some ⟨gf, 0, none⟩) N cf) rfl (by kernel_rfl) (by kernel_rfl) (by kernel_rfl) (fun _ _ _ h => h) hHeld (Or.inl ⟨by rfl, fun w' hSw => by (try dsimp only at hSw); (try subst hSw); go_simp⟩) ?_
                simp only [Act.put, List.setIfInBounds_toArray, List.set_cons_zero, List.set_cons_succ]
                refine held_take 13 (.int .i64 (v : Int)) rfl (by kernel_rfl) (by kernel_rfl) (by kernel_rfl) (fun _ _ _ h => h) hHeld (Or.inl ⟨by rfl, fun w' hSw => by (try dsimp only at hSw); (try subst hSw); go_simp⟩) ?_
                simp only [Act.put, List.setIfInBounds_toArray, List.set_cons_zero, List.set_cons_succ]
                refine held_take 14 (.pointer (some ⟨gf, v, none⟩)) rfl (by kernel_rfl) (by kernel_rfl) (by kernel_rfl) (fun _ _ _ h => h) hHeld (Or.inl ⟨by rfl, fun w' hSw => by (try dsimp only at hSw); (try subst hSw); go_simp⟩) ?_
                simp only [Act.put, List.setIfInBounds_toArray, List.set_cons_zero, List.set_cons_succ]
                refine held_take 15 (.string y) rfl (by kernel_rfl) (by kernel_rfl) (by kernel_rfl) (fun _ _ _ h => h) hHeld (Or.inl ⟨by rfl, fun w' hSw => by (try dsimp only at hSw); (try subst hSw); go_simp⟩) ?_
                simp only [Act.put, List.setIfInBounds_toArray, List.set_cons_zero, List.set_cons_succ]
                refine held_step 5 rfl (by kernel_rfl) (fun K hK => ?_)
                go_simp
                go_at_call 18
                refine (hset2.out _ kd).mono ?_
                rintro e w8 ⟨rfl, rfl⟩
                go_wp2_with fail
                refine hK.out _ _ ⟨e0, e1, r0, rv⟩ (fun hHeld => ?_)
                clear hK K
                refine held_take 16 (.bool false) rfl (by kernel_rfl) (by kernel_rfl) (by kernel_rfl) (fun _ _ _ h => h) hHeld (Or.inl ⟨by rfl, fun w' hSw => by (try dsimp only at hSw); (try subst hSw); go_simp⟩) ?_
                simp only [Act.put, List.setIfInBounds_toArray, List.set_cons_zero, List.set_cons_succ]
                refine wpAnyH_done (by kernel_rfl) ?_ _
                clear hHeld
                have hd8 := Lib.hid (hd7.out.keep kd)
                clear hset2 e0 e1 r0 rv hd7
                go_wp2
                go_roundw
                case rel => exact ⟨v + 1, by omega, by go_num, hd8.out⟩
                case measure => simp [intOf]; omega
              · have hge : (N : Int) ≤ v := by omega
                replace hd7 := Lib.hid hd7
                go_wp2
                go_roundw
                case rel => exact ⟨k + 1, by omega, by omega, by go_num, hd7.out⟩
                case measure => simp [intOf]; omega
    · rcases (show (k < l.length ∧ (30 : Int) ≤ k) ∨ (l.length : Int) ≤ k by omega) with ⟨hge1, hge2⟩ | hge1
      all_goals
        clear hduo hlt
        go_wp2_with fail
        refine (halive.out _).mono ?_
        rintro e w8 ⟨rfl, k8⟩
        have kend := hkw.trans k8
        go_wp2
        go_ret
        exact ⟨rfl, kend⟩

end Go.Proofs.YthpjkhmkjhgbkaaGreatDoor
