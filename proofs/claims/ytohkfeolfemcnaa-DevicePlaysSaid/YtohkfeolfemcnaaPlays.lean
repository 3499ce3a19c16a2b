/- The walk of DevicePlays. -/
import Derived.Test.YtohkfeolfemcnaaRef5
import Derived.Test.YtohkfeolfemcnaaFirm
namespace Go.Proofs.Ytohkfeolfemcnaa
open Go.RowKit

def smallOf (z : Int) : Nat := 1 + (z % 18446744073709551616 % 6).toNat
theorem smallOf_in (z : Int) : 1 ≤ smallOf z ∧ smallOf z ≤ 6 := by unfold smallOf; omega
theorem small_any (w : World) (z : Int) : Calls Try.prog 11 #[.int .i64 z] w fun e w' => e = .returned (.int .i64 (smallOf z : Int)) ∧ w' = w := by
  have e1 : IntKind.u64.wrap z = z % 18446744073709551616 := by simp [IntKind.wrap, IntKind.bits, IntKind.signed]
  have e2 : IntKind.i64.wrap (Int.tmod (IntKind.u64.wrap z) 6) = (smallOf z : Int) - 1 := by
    rw [e1, Int.tmod_eq_emod_of_nonneg (by omega), IntKind.wrap_i64]
    unfold smallOf
    omega
  have h1 := (smallOf_in z).1
  have h2 := (smallOf_in z).2
  generalize smallOf z = N at *
  clear e1
  go_enter Try.func11, Try.ntmps11
  go_wp2
  go_ret
  exact ⟨by simp; omega, rfl⟩

/-- In a region that draws its order: a condition may be laid over another one that it gives. -/
theorem held_more {P : Program} {ops : Array Oper} {Q : Exit → Act → World → Prop} {md : Region.Mode} {S S' : World → Prop} (hS : ∀ w, S' w → S w) : ∀ (fuel : Nat) (listed : Array Bool) (a : Act) (w : World), wpAnyH P md ops Q S' fuel listed a w → wpAnyH P md ops Q S fuel listed a w
  | 0, _, _, _, h => h
  | fuel + 1, _, _, _, h => ⟨h.1, fun i hi => wpOp_mono (fun a' w' h' => ⟨hS _ h'.1, held_more hS fuel _ a' w' h'.2⟩) (h.2 i hi)⟩

set_option maxRecDepth 100000 in
set_option maxHeartbeats 4000000 in
theorem devicePlays_walk (w : World) (z : Int) (A : Option Addr) (c : Nat) (l : List Deed) (h : Acts w w.heap.size A l) (hl : l.length ≤ 9223372036854775807) :
    Calls Try.prog 3 #[.int .i64 z, .slice A l.length c] w fun e w' => e = .returned (.bool true) ∧ Only [] w w' := by
  have hsmall : ∀ W, Calls Try.prog 11 #[.int .i64 z] W fun e w' => e = .returned (.int .i64 (smallOf z : Int)) ∧ w' = W := fun W => small_any W z
  obtain ⟨hN1, hN6⟩ := smallOf_in z
  generalize smallOf z = N at *
  have hcN : clamp (N : Int) = N := by unfold clamp; omega
  replace hsmall := Lib.hid hsmall
  go_enter Try.func3, Try.ntmps3
  go_wp2_with fail
  refine (alive_any w).mono ?_
  rintro e w1 ⟨rfl, g1⟩
  go_wp2_with fail
  refine (hsmall.out _).mono ?_
  rintro e w2 ⟨rfl, rfl⟩
  go_wp2_with fail
  refine (Run.new w w2 N (by omega) (by omega) g1).mono ?_
  rintro e w3 ⟨p, rfl, hr3⟩
  rw [hcN] at hr3
  go_wp2_with fail
  refine (hsmall.out _).mono ?_
  rintro e w4 ⟨rfl, rfl⟩
  go_wp2_with fail
  refine (rnew_any w4 N hN1 (by omega)).mono ?_
  rintro e w5 ⟨m, G, rfl, href, k45, hG⟩
  have hr5 : RunQ w w5 G p (fresh N) := hr3.q.turn k45 (fun i hi => ⟨.inr (hG i hi).1, (hG i hi).2⟩)
  clear hr3 hG k45
  go_wp2_with fail
  go_loopw [7] (fun i wr => ∃ k : Nat, k ≤ l.length ∧ k ≤ 200 ∧ i = .int .i64 k ∧ ∃ s t G, Like s t ∧ s.firm.length = N ∧ s.late.length ≤ k ∧ RunQ w wr G p s ∧ Ref wr m G t) (fun i _ => l.length - (intOf i).toNat)
  case atStart => exact ⟨0, by omega, by omega, rfl, _, _, G, ⟨rfl, rfl, rfl, .inl rfl⟩, fresh_firm N, by simp [fresh], hr5, href⟩
  case round =>
    clear hr5 href
    obtain ⟨k, hk, hk2, rfl, s, t, G, hlike, hs4, hsl, hr, href⟩ := hrel
    by_cases hlt : k < l.length ∧ k < 200
    · obtain ⟨hlt, hlt2⟩ := hlt
      obtain ⟨g, o, rfl, c0, c1, c2, c3⟩ := h.get hlt
      have hx := h.2 _ (List.getElem_mem hlt)
      generalize l[k] = x at *
      have hs' := act_firm s x
      have hs'' := act_late s x
      obtain ⟨hlike', herr⟩ := hlike.act x
      have htl : t.late.length < 1048576 := by rw [← hlike.2.1]; omega
      obtain ⟨kind, at_, b, kp⟩ := x
      simp only at c0 c1 c2 c3
      have d0 := hr.cell c0
      have d1 := hr.cell c1
      have d2 := hr.cell c2
      have d3 := hr.cell c3
      have hdo := (hr.only ((Only.refl [] wr).drew)).1.do ⟨kind, at_, b, kp⟩ hx (by omega)
      have hmod : ∀ W, Ref W m G t → _ := fun W hW => model_any W m G t ⟨kind, at_, b, kp⟩ hx htl hW
      rw [← herr] at hmod
      generalize actErr s ⟨kind, at_, b, kp⟩ = er at hdo hmod herr
      generalize actSt s ⟨kind, at_, b, kp⟩ = s2 at *
      generalize actRef t ⟨kind, at_, b, kp⟩ = t2 at *
      replace hdo := Lib.hid hdo
      replace hmod := Lib.hid hmod
      clear herr
      go_wp2_with fail
      have kd : Only [] wr wr.drew := (Only.refl [] wr).drew
      refine wp_region_held_drew (S := fun w' => w'.cell? ⟨g, o + k * 4, none⟩ = some (.int .i64 kind) ∧ w'.cell? ⟨g, o + k * 4 + 1, none⟩ = some (.int .i64 at_) ∧ w'.cell? ⟨g, o + k * 4 + 2, none⟩ = some (.int .u8 (b.toNat : Int)) ∧ w'.cell? ⟨g, o + k * 4 + 3, none⟩ = some (.int .u64 (kp : Int))) (by kernel_rfl) ⟨d0, d1, d2, d3⟩ (fun hHeld => ?_)
      refine held_take 0 (.pointer (some ⟨p, 0, none⟩)) rfl (by kernel_rfl) (by kernel_rfl) (by kernel_rfl) (fun _ _ _ h => h) hHeld (Or.inl ⟨by rfl, fun w' hSw => by (try dsimp only at hSw); go_simp⟩) ?_
      simp only [Act.put, List.setIfInBounds_toArray, List.set_cons_zero, List.set_cons_succ]
      refine held_take 1 (.slice (some ⟨g, o, none⟩) l.length c) rfl (by kernel_rfl) (by kernel_rfl) (by kernel_rfl) (fun _ _ _ h => h) hHeld (Or.inl ⟨by rfl, fun w' hSw => by (try dsimp only at hSw); go_simp⟩) ?_
      simp only [Act.put, List.setIfInBounds_toArray, List.set_cons_zero, List.set_cons_succ]
      refine held_take 2 (.int .i64 (k : Int)) rfl (by kernel_rfl) (by kernel_rfl) (by kernel_rfl) (fun _ _ _ h => h) hHeld (Or.inl ⟨by rfl, fun w' hSw => by (try dsimp only at hSw); go_simp⟩) ?_
      simp only [Act.put, List.setIfInBounds_toArray, List.set_cons_zero, List.set_cons_succ]
      refine held_take 3 (.pointer (some ⟨g, o + k * 4, none⟩)) rfl (by kernel_rfl) (by kernel_rfl) (by kernel_rfl) (fun _ _ _ h => h) hHeld (Or.inl ⟨by rfl, fun w' hSw => by (try dsimp only at hSw); go_simp⟩) ?_
      simp only [Act.put, List.setIfInBounds_toArray, List.set_cons_zero, List.set_cons_succ]
      refine held_take 4 (.agg #[.int .i64 kind, .int .i64 at_, .int .u8 (b.toNat : Int), .int .u64 (kp : Int)]) rfl (by kernel_rfl) (by kernel_rfl) (by kernel_rfl) (fun _ _ _ h => h) hHeld (Or.inl ⟨by rfl, fun w' hSw => by (try dsimp only at hSw); go_simp⟩) ?_
      simp only [Act.put, List.setIfInBounds_toArray, List.set_cons_zero, List.set_cons_succ]
      refine held_take 6 (.pointer (some ⟨m, 0, none⟩)) rfl (by kernel_rfl) (by kernel_rfl) (by kernel_rfl) (fun _ _ _ h => h) hHeld (Or.inl ⟨by rfl, fun w' hSw => by (try dsimp only at hSw); go_simp⟩) ?_
      simp only [Act.put, List.setIfInBounds_toArray, List.set_cons_zero, List.set_cons_succ]
      refine held_take 7 (.slice (some ⟨g, o, none⟩) l.length c) rfl (by kernel_rfl) (by kernel_rfl) (by kernel_rfl) (fun _ _ _ h => h) hHeld (Or.inl ⟨by rfl, fun w' hSw => by (try dsimp only at hSw); go_simp⟩) ?_
      simp only [Act.put, List.setIfInBounds_toArray, List.set_cons_zero, List.set_cons_succ]
      refine held_take 8 (.int .i64 (k : Int)) rfl (by kernel_rfl) (by kernel_rfl) (by kernel_rfl) (fun _ _ _ h => h) hHeld (Or.inl ⟨by rfl, fun w' hSw => by (try dsimp only at hSw); go_simp⟩) ?_
      simp only [Act.put, List.setIfInBounds_toArray, List.set_cons_zero, List.set_cons_succ]
      refine held_take 9 (.pointer (some ⟨g, o + k * 4, none⟩)) rfl (by kernel_rfl) (by kernel_rfl) (by kernel_rfl) (fun _ _ _ h => h) hHeld (Or.inl ⟨by rfl, fun w' hSw => by (try dsimp only at hSw); go_simp⟩) ?_
      simp only [Act.put, List.setIfInBounds_toArray, List.set_cons_zero, List.set_cons_succ]
      refine held_take 10 (.agg #[.int .i64 kind, .int .i64 at_, .int .u8 (b.toNat : Int), .int .u64 (kp : Int)]) rfl (by kernel_rfl) (by kernel_rfl) (by kernel_rfl) (fun _ _ _ h => h) hHeld (Or.inl ⟨by rfl, fun w' hSw => by (try dsimp only at hSw); go_simp⟩) ?_
      simp only [Act.put, List.setIfInBounds_toArray, List.set_cons_zero, List.set_cons_succ]
      refine held_step 5 rfl (by kernel_rfl) (fun K hK => ?_)
      go_simp
      go_at_call 13
      refine hdo.out.mono ?_
      rintro e w3 ⟨rfl, hr3, hk3⟩
      have href3 := href.keepQ (fun i hi => hk3 i hi)
      go_wp2_with fail
      refine hK.out _ _ ⟨hr3.cell c0, hr3.cell c1, hr3.cell c2, hr3.cell c3⟩ (fun hHeld => ?_)
      clear hK K
      refine held_step 11 rfl (by kernel_rfl) (fun K hK => ?_)
      go_simp
      go_at_call 14
      refine (hmod.out _ href3).mono ?_
      rintro e w4 ⟨rfl, G2, href4, kG, hG2⟩
      have hr4 : RunQ w w4 G2 p s2 := hr3.turn kG hG2
      go_wp2_with fail
      refine hK.out _ _ ⟨hr4.cell c0, hr4.cell c1, hr4.cell c2, hr4.cell c3⟩ (fun hHeld => ?_)
      clear hK K hHeld hr3 href3 href hr hk3 kG hG2
      obtain ⟨vf, vl, b4, of4, ol4, _⟩ := id href4
      have m3 := b4.cell 3
      have m1 := b4.cell 1
      simp only [List.getElem?_toArray, List.getElem?_cons_zero, List.getElem?_cons_succ] at m3 m1
      rw [← hlike'.2.2.1] at m3
      rw [← hlike'.2.1] at ol4
      obtain ⟨A2, cl2, rfl⟩ : ∃ A c, vl = .slice A s2.late.length c := by
        rcases ol4.2 with ⟨rfl, h0⟩ | ⟨g, cap, cur, rfl, _⟩
        · exact ⟨_, _, by rw [h0]⟩
        · exact ⟨_, _, rfl⟩
      have hdead := Lib.hid (hr4.run.dead)
      have huns := Lib.hid (hr4.run.unsettled)
      clear b4 of4 ol4
      refine held_more (S' := fun w' => w' = w4) (fun w' hw' => by
        subst hw'
        exact ⟨hr4.cell c0, hr4.cell c1, hr4.cell c2, hr4.cell c3⟩) _ _ _ _ ?_
      have hHeld : (fun w' => w' = w4) w4 := rfl
      refine held_take 12 (.bool false) rfl (by kernel_rfl) (by kernel_rfl) (by kernel_rfl) (fun _ _ _ h => h) hHeld (Or.inl ⟨by rfl, fun w' hSw => by (try dsimp only at hSw); (try subst hSw); go_simp⟩) ?_
      simp only [Act.put, List.setIfInBounds_toArray, List.set_cons_zero, List.set_cons_succ]
      refine held_take 13 (.bool false) rfl (by kernel_rfl) (by kernel_rfl) (by kernel_rfl) (fun _ _ _ h => h) hHeld (Or.inl ⟨by rfl, fun w' hSw => by (try dsimp only at hSw); (try subst hSw); go_simp⟩) ?_
      simp only [Act.put, List.setIfInBounds_toArray, List.set_cons_zero, List.set_cons_succ]
      refine held_take 14 (.pointer (some ⟨p, 0, none⟩)) rfl (by kernel_rfl) (by kernel_rfl) (by kernel_rfl) (fun _ _ _ h => h) hHeld (Or.inl ⟨by rfl, fun w' hSw => by (try dsimp only at hSw); (try subst hSw); go_simp⟩) ?_
      simp only [Act.put, List.setIfInBounds_toArray, List.set_cons_zero, List.set_cons_succ]
      refine held_take 16 (.pointer (some ⟨m, 0, none⟩)) rfl (by kernel_rfl) (by kernel_rfl) (by kernel_rfl) (fun _ _ _ h => h) hHeld (Or.inl ⟨by rfl, fun w' hSw => by (try dsimp only at hSw); (try subst hSw); go_simp⟩) ?_
      simp only [Act.put, List.setIfInBounds_toArray, List.set_cons_zero, List.set_cons_succ]
      refine held_take 17 (.pointer (some ⟨m, 0, none⟩)) rfl (by kernel_rfl) (by kernel_rfl) (by kernel_rfl) (fun _ _ _ h => h) hHeld (Or.inl ⟨by rfl, fun w' hSw => by (try dsimp only at hSw); (try subst hSw); go_simp⟩) ?_
      simp only [Act.put, List.setIfInBounds_toArray, List.set_cons_zero, List.set_cons_succ]
      refine held_take 18 (.pointer (some ⟨m, 3, none⟩)) rfl (by kernel_rfl) (by kernel_rfl) (by kernel_rfl) (fun _ _ _ h => h) hHeld (Or.inl ⟨by rfl, fun w' hSw => by (try dsimp only at hSw); (try subst hSw); go_simp⟩) ?_
      simp only [Act.put, List.setIfInBounds_toArray, List.set_cons_zero, List.set_cons_succ]
      refine held_take 19 (.bool s2.dead) rfl (by kernel_rfl) (by kernel_rfl) (by kernel_rfl) (fun _ _ _ h => h) hHeld (Or.inl ⟨by rfl, fun w' hSw => by (try dsimp only at hSw); (try subst hSw); go_simp⟩) ?_
      simp only [Act.put, List.setIfInBounds_toArray, List.set_cons_zero, List.set_cons_succ]
      refine held_step 15 rfl (by kernel_rfl) (fun K hK => ?_)
      go_simp
      go_at_call 15
      refine hdead.out.mono ?_
      rintro e w5 ⟨rfl, hw5⟩
      rw [hw5]
      clear hw5 w5
      go_wp2_with fail
      refine hK.out _ _ rfl (fun _ => ?_)
      clear hK K
      clear hHeld
      have hHeld : (fun w' => w' = w4) w4 := rfl
      refine held_take 20 (.bool false) rfl (by kernel_rfl) (by kernel_rfl) (by kernel_rfl) (fun _ _ _ h => h) hHeld (Or.inl ⟨by rfl, fun w' hSw => by (try dsimp only at hSw); (try subst hSw); go_simp⟩) ?_
      simp only [Act.put, List.setIfInBounds_toArray, List.set_cons_zero, List.set_cons_succ]
      refine held_take 21 (.bool false) rfl (by kernel_rfl) (by kernel_rfl) (by kernel_rfl) (fun _ _ _ h => h) hHeld (Or.inl ⟨by rfl, fun w' hSw => by (try dsimp only at hSw); (try subst hSw); go_simp⟩) ?_
      simp only [Act.put, List.setIfInBounds_toArray, List.set_cons_zero, List.set_cons_succ]
      refine held_take 22 (.bool false) rfl (by kernel_rfl) (by kernel_rfl) (by kernel_rfl) (fun _ _ _ h => h) hHeld (Or.inl ⟨by rfl, fun w' hSw => by (try dsimp only at hSw); (try subst hSw); go_simp⟩) ?_
      simp only [Act.put, List.setIfInBounds_toArray, List.set_cons_zero, List.set_cons_succ]
      refine held_take 23 (.pointer (some ⟨p, 0, none⟩)) rfl (by kernel_rfl) (by kernel_rfl) (by kernel_rfl) (fun _ _ _ h => h) hHeld (Or.inl ⟨by rfl, fun w' hSw => by (try dsimp only at hSw); (try subst hSw); go_simp⟩) ?_
      simp only [Act.put, List.setIfInBounds_toArray, List.set_cons_zero, List.set_cons_succ]
      refine held_take 25 (.pointer (some ⟨m, 0, none⟩)) rfl (by kernel_rfl) (by kernel_rfl) (by kernel_rfl) (fun _ _ _ h => h) hHeld (Or.inl ⟨by rfl, fun w' hSw => by (try dsimp only at hSw); (try subst hSw); go_simp⟩) ?_
      simp only [Act.put, List.setIfInBounds_toArray, List.set_cons_zero, List.set_cons_succ]
      refine held_take 26 (.pointer (some ⟨m, 0, none⟩)) rfl (by kernel_rfl) (by kernel_rfl) (by kernel_rfl) (fun _ _ _ h => h) hHeld (Or.inl ⟨by rfl, fun w' hSw => by (try dsimp only at hSw); (try subst hSw); go_simp⟩) ?_
      simp only [Act.put, List.setIfInBounds_toArray, List.set_cons_zero, List.set_cons_succ]
      refine held_take 27 (.pointer (some ⟨m, 1, none⟩)) rfl (by kernel_rfl) (by kernel_rfl) (by kernel_rfl) (fun _ _ _ h => h) hHeld (Or.inl ⟨by rfl, fun w' hSw => by (try dsimp only at hSw); (try subst hSw); go_simp⟩) ?_
      simp only [Act.put, List.setIfInBounds_toArray, List.set_cons_zero, List.set_cons_succ]
      refine held_take 28 (.slice A2 s2.late.length cl2) rfl (by kernel_rfl) (by kernel_rfl) (by kernel_rfl) (fun _ _ _ h => h) hHeld (Or.inl ⟨by rfl, fun w' hSw => by (try dsimp only at hSw); (try subst hSw); go_simp⟩) ?_
      simp only [Act.put, List.setIfInBounds_toArray, List.set_cons_zero, List.set_cons_succ]
      refine held_take 29 (.int .i64 (s2.late.length : Int)) rfl (by kernel_rfl) (by kernel_rfl) (by kernel_rfl) (fun _ _ _ h => h) hHeld (Or.inl ⟨by rfl, fun w' hSw => by (try dsimp only at hSw); (try subst hSw); go_simp⟩) ?_
      simp only [Act.put, List.setIfInBounds_toArray, List.set_cons_zero, List.set_cons_succ]
      refine held_step 24 rfl (by kernel_rfl) (fun K hK => ?_)
      go_simp
      go_at_call 16
      refine huns.out.mono ?_
      rintro e w5 ⟨rfl, hw5⟩
      rw [hw5]
      clear hw5 w5
      go_wp2_with fail
      refine hK.out _ _ rfl (fun _ => ?_)
      clear hK K
      clear hHeld
      have hHeld : (fun w' => w' = w4) w4 := rfl
      refine held_take 30 (.bool false) rfl (by kernel_rfl) (by kernel_rfl) (by kernel_rfl) (fun _ _ _ h => h) hHeld (Or.inl ⟨by rfl, fun w' hSw => by (try dsimp only at hSw); (try subst hSw); go_simp⟩) ?_
      simp only [Act.put, List.setIfInBounds_toArray, List.set_cons_zero, List.set_cons_succ]
      refine held_take 31 (.bool false) rfl (by kernel_rfl) (by kernel_rfl) (by kernel_rfl) (fun _ _ _ h => h) hHeld (Or.inl ⟨by rfl, fun w' hSw => by (try dsimp only at hSw); (try subst hSw); go_simp⟩) ?_
      simp only [Act.put, List.setIfInBounds_toArray, List.set_cons_zero, List.set_cons_succ]
      refine wpAnyH_done (by kernel_rfl) ?_ _
      clear hHeld hdead huns m1 m3
      have hN2 : s2.firm.length = N := by rw [hs']; exact hs4
      have hl2 : s2.late.length ≤ k + 1 := by omega
      have htl2 : t2.late.length < 1048576 := by rw [← hlike'.2.1]; omega
      clear hs' hs'' d0 d1 d2 d3 hlike hs4 hsl htl hdo hmod
      go_wp2_with fail
      go_loopw [8] (fun i wr' => ∃ v : Int, -1 ≤ v ∧ v ≤ (N : Int) + 1 ∧ i = .int .i64 v ∧ wr' = w4) (fun i _ => ((N : Int) + 1 - intOf i).toNat)
      case atStart => exact ⟨-1, by omega, by omega, rfl, rfl⟩
      case round =>
        obtain ⟨v, hvl, hvh, rfl, hwr⟩ := hrel
        subst hwr
        have hN0 : (N : Int) ≤ 6 := by omega
        by_cases hlt5 : v ≤ (N : Int)
        · by_cases hv0 : 0 ≤ v
          · by_cases hv1 : v < (N : Int)
            · obtain ⟨v, rfl⟩ := Int.eq_ofNat_of_zero_le hv0
              have hvN : v < t2.firm.length := by rw [← hlike'.1, hN2]; omega
              obtain ⟨f1, f2⟩ := hlike'.read (v : Int)
              have hrd := hr4.run.read (v : Int)
              have hrr := rread_any _ m G2 t2 (v : Int) htl2 href4
              rw [← f1, ← f2] at hrr
              have hset := hr4.run.settled (v : Int)
              obtain ⟨d, hd⟩ : ∃ d, d = strOf (readB s2 (v : Int)) := ⟨_, rfl⟩
              obtain ⟨er2, her2⟩ : ∃ er2, er2 = readErr s2 (v : Int) := ⟨_, rfl⟩
              rw [← hd, ← her2] at hrd hrr
              clear hd her2 f1 f2
              have hf : firmB s2 (v : Int) = t2.firm.getD v [] := by
                have hh : hasBlock s2.firm.length (v : Int) = true := by rw [hN2]; simp only [hasBlock, decide_eq_true_eq]; omega
                rw [firmB, if_neg (by rw [hh]; decide), Int.toNat_natCast, hlike'.1]
              obtain ⟨vf2, vl2, b5, of5, _⟩ := id href4
              obtain ⟨gf, cf, rfl, _, _⟩ := of5.form (by omega)
              have u0 := b5.cell 0
              simp only [List.getElem?_toArray, List.getElem?_cons_zero] at u0
              have u1 := of5.cells rfl v (.string (strOf (t2.firm.getD v []))) (by simp [strCells, hvN])
              rw [addr_add, Nat.zero_add] at u1
              obtain ⟨y, hy⟩ : ∃ y, y = strOf (t2.firm.getD v []) := ⟨_, rfl⟩
              rw [← hy] at u1
              rw [hf, ← hy] at hset
              have hfl : t2.firm.length = N := by rw [← hlike'.1]; exact hN2
              rw [hfl] at u0
              clear hf hy b5 of5
              replace hrd := Lib.hid hrd
              replace hrr := Lib.hid hrr
              replace hset := Lib.hid hset
              go_wp2_with fail
              refine (hsmall.out _).mono ?_
              rintro e w6 ⟨rfl, hw6⟩
              rw [hw6]
              clear hw6 w6
              go_wp2_with fail
              refine hrd.out.mono ?_
              rintro e w6 ⟨rfl, hw6⟩
              rw [hw6]
              clear hw6 w6
              go_wp2_with fail
              refine hrr.out.mono ?_
              rintro e w6 ⟨rfl, hw6⟩
              rw [hw6]
              clear hw6 w6
              go_wp2_with fail
              refine (hsmall.out _).mono ?_
              rintro e w6 ⟨rfl, hw6⟩
              rw [hw6]
              clear hw6 w6
              go_wp2_with fail
              refine hset.out.mono ?_
              rintro e w6 ⟨rfl, hw6⟩
              rw [hw6]
              clear hw6 w6
              go_wp2
              go_roundw
              case rel => exact ⟨(v : Int) + 1, by omega, by omega, by go_num, by trivial⟩
              case measure => simp [intOf]; omega
            · obtain ⟨f1, f2⟩ := hlike'.read v
              have hrd := hr4.run.read v
              have hrr := rread_any _ m G2 t2 v htl2 href4
              rw [← f1, ← f2] at hrr
              have hset := hr4.run.settled v
              obtain ⟨d, hd⟩ : ∃ d, d = strOf (readB s2 v) := ⟨_, rfl⟩
              obtain ⟨er2, her2⟩ : ∃ er2, er2 = readErr s2 v := ⟨_, rfl⟩
              rw [← hd, ← her2] at hrd hrr
              clear hd her2 f1 f2
              have hf : firmB s2 v = [] := by
                have hh : hasBlock s2.firm.length v = false := by rw [hN2]; simp only [hasBlock, decide_eq_false_iff_not]; omega
                simp [firmB, hh]
              rw [hf, show strOf [] = ⟨#[]⟩ from rfl] at hset
              clear hf
              replace hrd := Lib.hid hrd
              replace hrr := Lib.hid hrr
              replace hset := Lib.hid hset
              go_wp2_with fail
              refine (hsmall.out _).mono ?_
              rintro e w6 ⟨rfl, hw6⟩
              rw [hw6]
              clear hw6 w6
              go_wp2_with fail
              refine hrd.out.mono ?_
              rintro e w6 ⟨rfl, hw6⟩
              rw [hw6]
              clear hw6 w6
              go_wp2_with fail
              refine hrr.out.mono ?_
              rintro e w6 ⟨rfl, hw6⟩
              rw [hw6]
              clear hw6 w6
              go_wp2_with fail
              refine (hsmall.out _).mono ?_
              rintro e w6 ⟨rfl, hw6⟩
              rw [hw6]
              clear hw6 w6
              go_wp2_with fail
              refine hset.out.mono ?_
              rintro e w6 ⟨rfl, hw6⟩
              rw [hw6]
              clear hw6 w6
              go_wp2
              go_roundw
              case rel => exact ⟨v + 1, by omega, by omega, by go_num, by trivial⟩
              case measure => simp [intOf]; omega
          · obtain ⟨f1, f2⟩ := hlike'.read v
            have hrd := hr4.run.read v
            have hrr := rread_any _ m G2 t2 v htl2 href4
            rw [← f1, ← f2] at hrr
            have hset := hr4.run.settled v
            obtain ⟨d, hd⟩ : ∃ d, d = strOf (readB s2 v) := ⟨_, rfl⟩
            obtain ⟨er2, her2⟩ : ∃ er2, er2 = readErr s2 v := ⟨_, rfl⟩
            rw [← hd, ← her2] at hrd hrr
            clear hd her2 f1 f2
            have hf : firmB s2 v = [] := by
              have hh : hasBlock s2.firm.length v = false := by simp only [hasBlock, decide_eq_false_iff_not]; omega
              simp [firmB, hh]
            rw [hf, show strOf [] = ⟨#[]⟩ from rfl] at hset
            clear hf
            replace hrd := Lib.hid hrd
            replace hrr := Lib.hid hrr
            replace hset := Lib.hid hset
            go_wp2_with fail
            refine (hsmall.out _).mono ?_
            rintro e w6 ⟨rfl, hw6⟩
            rw [hw6]
            clear hw6 w6
            go_wp2_with fail
            refine hrd.out.mono ?_
            rintro e w6 ⟨rfl, hw6⟩
            rw [hw6]
            clear hw6 w6
            go_wp2_with fail
            refine hrr.out.mono ?_
            rintro e w6 ⟨rfl, hw6⟩
            rw [hw6]
            clear hw6 w6
            go_wp2_with fail
            refine hset.out.mono ?_
            rintro e w6 ⟨rfl, hw6⟩
            rw [hw6]
            clear hw6 w6
            go_wp2
            go_roundw
            case rel => exact ⟨v + 1, by omega, by omega, by go_num, by trivial⟩
            case measure => simp [intOf]; omega
        · have hlk := Lib.hid hlike'
          clear hlike'
          replace hN2 := Lib.hid hN2
          replace hr4 := Lib.hid hr4
          replace href4 := Lib.hid href4
          go_wp2_with fail
          refine (hsmall.out _).mono ?_
          rintro e w6 ⟨rfl, hw6⟩
          rw [hw6]
          clear hw6 w6
          go_wp2
          go_roundw
          case rel => exact ⟨k + 1, by omega, by omega, by go_num, s2, t2, G2, hlk.out, hN2.out, hl2, hr4.out, href4.out⟩
          case measure => simp [intOf]; omega
    · rcases (show (k < l.length ∧ (200 : Int) ≤ k) ∨ (l.length : Int) ≤ k by omega) with ⟨hge1, hge2⟩ | hge1
      all_goals
        go_wp2_with fail
        refine (alive_any _).mono ?_
        rintro e w6 ⟨rfl, k6⟩
        go_wp2
        go_ret
        exact ⟨rfl, hr.acts.trans k6⟩

end Go.Proofs.Ytohkfeolfemcnaa
