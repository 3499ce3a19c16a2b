/- The handlers of a data server: read. -/
import Derived.Test.YtmelaiefbpdifaaGreatDoorFOp13
namespace Go.Proofs.YtmelaiefbpdifaaGreatDoor.Srv
open Go.RowKit Go.Maps
open Pgs (Pg pgE pgE_length keyB headB find okBytes_of okPut_of errB bytesL okBytes okPut okCut cutL)
section
variable {w w1 : World} {R : List Nat} {sb dp n c rp mb lp lb : Nat} {σ : Sv} {s : St} {F : List Nat} {vs : Nat → Value} {D : DataW Value}
set_option maxRecDepth 100000 in
set_option maxHeartbeats 2000000 in
theorem SrvAt.read (h : SrvAt w w1 R sb dp σ s n false c rp mb lp lb F vs D) (p : Pk) (hp : p.Ok) :
  Calls Tryz.prog 159 #[.pointer (some ⟨sb, 0, none⟩), pkV p] w1 fun e w' => e = .returned (.tuple #[.string (strOf (rdD σ p)), .int .i64 (rdE σ p)]) ∧ Only [] w1 w' := by
 have hcur := fun W (k : Only [] w1 W) => (h.keep k).current p hp.file
 obtain ⟨f0, f1⟩ := hp.file
 obtain ⟨o0, o1⟩ := hp.off
 obtain ⟨l0, l1⟩ := hp.len
 have b0 : Blk (w1.alloc (.cells (pkA p) 53)) w1.heap.size 53 (pkA p) := Blk.new w1 _ _
 have k0 : Only [] w1 (w1.alloc (.cells (pkA p) 53)) := (Only.refl [] w1).alloc _
 have z1 : Blk ((w1.alloc (.cells (pkA p) 53)).alloc (.cells zeroOp 51)) (w1.heap.size + 1) 51 zeroOp := by
  have := Blk.new (w1.alloc (.cells (pkA p) 53)) 51 zeroOp
  rwa [show (w1.alloc (.cells (pkA p) 53)).heap.size = w1.heap.size + 1 by simp] at this
 have k1 := k0.alloc (.cells zeroOp 51)
 have hwi := fun W => within_any W p.off p.len ⟨by omega, by omega⟩ ⟨by omega, by omega⟩
 have hu : IntKind.u64.wrap p.len = p.len := by rw [IntKind.wrap_u64]; omega
 cases hc : cur σ.M p.file.toNat p.epoch with
 | false =>
  have e1 : rdE σ p = 17 := by unfold rdE; rw [if_pos hc]
  have e2 : rdD σ p = [] := by unfold rdD; rw [if_neg (by rw [e1]; decide)]
  rw [e1, e2]
  rw [hc] at hcur
  clear h hc e1 e2 hwi hu
  go_enter Tryz.func159, Tryz.ntmps159
  go_wp2_with (first
   | (refine wpList_load_op p rfl (.tmp 7) rfl w1.heap.size rfl b0 ?_)
   | (refine wpList_store_op p zeroOp rfl rfl (.tmp 6) (.tmp 8) rfl (w1.heap.size + 1) rfl rfl z1 ?_; intro w2 b2 k2)
   | (refine wpList_load_opB p rfl (.tmp 6) rfl (w1.heap.size + 1) rfl b2 ?_))
  have k12 : Only [] w1 w2 := k1.then k2 (fun i hi => .inr (by simp at hi; omega))
  have o2 : OpB w2 (w1.heap.size + 1) p := ⟨b2⟩
  refine (hcur _ k12).mono ?_; rintro e w3 ⟨rfl, k3⟩
  have k13 := k12.trans k3
  have o3 := o2.kept k3 (by simp)
  clear k2 k3 o2 b2 k12 hcur b0 z1 k0 k1
  go_wp2
  go_ret2
  exact ⟨rfl, k13⟩
 | true =>
  rw [hc] at hcur
  have hcN : ¬ cur σ.M p.file.toNat p.epoch = false := by rw [hc]; simp
  by_cases hr : p.off + p.len ≤ 1024
  ·have d1 : decide (p.off + p.len ≤ 1024) = true := by simpa using hr
   simp only [d1] at hwi
   by_cases hl : 128 < p.len
   ·have d2 : decide (128 < p.len) = true := by simpa using hl
    have e1 : rdE σ p = 15 := by unfold rdE; rw [if_neg hcN, if_pos (.inr hl)]
    have e2 : rdD σ p = [] := by unfold rdD; rw [if_neg (by rw [e1]; decide)]
    rw [e1, e2]
    clear h hc e1 e2 hcN hr hl d1
    go_enter Tryz.func159, Tryz.ntmps159
    go_wp2_with (first
     | (refine wpList_load_op p rfl (.tmp 7) rfl w1.heap.size rfl b0 ?_)
     | (refine wpList_store_op p zeroOp rfl rfl (.tmp 6) (.tmp 8) rfl (w1.heap.size + 1) rfl rfl z1 ?_; intro w2 b2 k2)
     | (refine wpList_load_opB p rfl (.tmp 6) rfl (w1.heap.size + 1) rfl b2 ?_))
    have k12 : Only [] w1 w2 := k1.then k2 (fun i hi => .inr (by simp at hi; omega))
    have o2 : OpB w2 (w1.heap.size + 1) p := ⟨b2⟩
    refine (hcur _ k12).mono ?_; rintro e w3 ⟨rfl, k3⟩
    have k13 := k12.trans k3
    have o3 := o2.kept k3 (by simp)
    clear k2 k3 o2 b2 k12 hcur b0 z1 k0 k1
    obtain ⟨_, _, c4, c5, _⟩ := o3.cells
    go_wp2_with fail
    refine (hwi _).mono ?_; rintro e w4 ⟨rfl, rfl⟩
    go_wp2
    go_ret2
    exact ⟨rfl, k13⟩
   ·have d2 : decide (128 < p.len) = false := by simpa using hl
    have e1 : rdE σ p = 0 := by unfold rdE; rw [if_neg hcN, if_neg (by omega)]
    have e2 : rdD σ p = bytesL (wasO σ p) p.off p.len := by unfold rdD; rw [if_pos e1]
    have hobj := fun W (k : Only [] w1 W) => (h.keep k).object p.file p.file.toNat (by omega) (by omega)
    have hrt := obj_right h.ok p.file.toNat
    have hb := fun W A k (hA : Els pgE 2 W A (objL σ p.file.toNat)) => Pgs.bytes_any W A k _ (objL σ p.file.toNat) rfl hA (by have := Pgs.right_len hrt; omega) p.off p.len (by omega)
    rw [okBytes_of hrt o0 l0 hr] at hb
    unfold wasO at e2
    rw [e1, e2]
    have hv1 : IntKind.i64.wrap p.off = p.off := by rw [IntKind.wrap_i64]; omega
    have hv2 : IntKind.i64.wrap p.len = p.len := by rw [IntKind.wrap_i64]; omega
    clear h hc e1 e2 hcN hr hl d1 hrt
    generalize objL σ p.file.toNat = ob at *
    generalize strOf (bytesL ob p.off p.len) = bs at *
    replace hobj := Lib.hid hobj
    replace hb := Lib.hid hb
    go_enter Tryz.func159, Tryz.ntmps159
    go_wp2_with (first
     | (refine wpList_load_op p rfl (.tmp 7) rfl w1.heap.size rfl b0 ?_)
     | (refine wpList_store_op p zeroOp rfl rfl (.tmp 6) (.tmp 8) rfl (w1.heap.size + 1) rfl rfl z1 ?_; intro w2 b2 k2)
     | (refine wpList_load_opB p rfl (.tmp 6) rfl (w1.heap.size + 1) rfl b2 ?_))
    have k12 : Only [] w1 w2 := k1.then k2 (fun i hi => .inr (by simp at hi; omega))
    have o2 : OpB w2 (w1.heap.size + 1) p := ⟨b2⟩
    refine (hcur _ k12).mono ?_; rintro e w3 ⟨rfl, k3⟩
    have k13 := k12.trans k3
    have o3 := o2.kept k3 (by simp)
    clear k2 k3 o2 b2 k12 hcur b0 z1 k0 k1
    obtain ⟨c2, _, c4, c5, _⟩ := o3.cells
    go_wp2_with fail
    refine (hwi _).mono ?_; rintro e w4 ⟨rfl, rfl⟩
    clear hwi
    generalize w1.heap.size + 1 = g at *
    go_wp2_with fail
    have kd : Only [] w1 w4.drew := k13.drew
    have od := o3.kept ((Only.refl [] w4).drew) (by simp)
    obtain ⟨c2, _, c4, c5, _⟩ := od.cells
    refine wp_region_held_drew (S := fun w' => w'.cell? ⟨g, 2, none⟩ = some (.int .u32 p.file) ∧ w'.cell? ⟨g, 4, none⟩ = some (.int .u32 p.off) ∧ w'.cell? ⟨g, 5, none⟩ = some (.int .u32 p.len)) (by kernel_rfl) ⟨c2, c4, c5⟩ (fun hHeld => ?_)
    generalize w4.drew = wd at *
    refine held_take 0 (.pointer (some ⟨sb, 0, none⟩)) rfl (by kernel_rfl) (by kernel_rfl) (by kernel_rfl) (fun _ _ _ h => h) hHeld (Or.inl ⟨by rfl, fun w' hSw => by (try dsimp only at hSw); (try subst hSw); go_simp⟩) ?_
    simp only [Act.put, List.setIfInBounds_toArray, List.set_cons_zero, List.set_cons_succ]
    refine held_take 1 (.pointer (some ⟨g, 2, none⟩)) rfl (by kernel_rfl) (by kernel_rfl) (by kernel_rfl) (fun _ _ _ h => h) hHeld (Or.inl ⟨by rfl, fun w' hSw => by (try dsimp only at hSw); (try subst hSw); go_simp⟩) ?_
    simp only [Act.put, List.setIfInBounds_toArray, List.set_cons_zero, List.set_cons_succ]
    refine held_take 2 (.int .u32 p.file) rfl (by kernel_rfl) (by kernel_rfl) (by kernel_rfl) (fun _ _ _ h => h) hHeld (Or.inl ⟨by rfl, fun w' hSw => by obtain ⟨hc, _, _⟩ := hSw; go_simp⟩) ?_
    simp only [Act.put, List.setIfInBounds_toArray, List.set_cons_zero, List.set_cons_succ]
    refine held_take 4 (.pointer (some ⟨g, 4, none⟩)) rfl (by kernel_rfl) (by kernel_rfl) (by kernel_rfl) (fun _ _ _ h => h) hHeld (Or.inl ⟨by rfl, fun w' hSw => by (try dsimp only at hSw); (try subst hSw); go_simp⟩) ?_
    simp only [Act.put, List.setIfInBounds_toArray, List.set_cons_zero, List.set_cons_succ]
    refine held_take 5 (.int .u32 p.off) rfl (by kernel_rfl) (by kernel_rfl) (by kernel_rfl) (fun _ _ _ h => h) hHeld (Or.inl ⟨by rfl, fun w' hSw => by obtain ⟨_, hc, _⟩ := hSw; go_simp⟩) ?_
    simp only [Act.put, List.setIfInBounds_toArray, List.set_cons_zero, List.set_cons_succ]
    refine held_take 6 (.int .i64 p.off) rfl (by kernel_rfl) (by kernel_rfl) (by kernel_rfl) (fun _ _ _ h => h) hHeld (Or.inl ⟨by rfl, fun w' hSw => by (try dsimp only at hSw); (try subst hSw); go_simp⟩) ?_
    simp only [Act.put, List.setIfInBounds_toArray, List.set_cons_zero, List.set_cons_succ]
    refine held_take 7 (.pointer (some ⟨g, 5, none⟩)) rfl (by kernel_rfl) (by kernel_rfl) (by kernel_rfl) (fun _ _ _ h => h) hHeld (Or.inl ⟨by rfl, fun w' hSw => by (try dsimp only at hSw); (try subst hSw); go_simp⟩) ?_
    simp only [Act.put, List.setIfInBounds_toArray, List.set_cons_zero, List.set_cons_succ]
    refine held_take 8 (.int .u32 p.len) rfl (by kernel_rfl) (by kernel_rfl) (by kernel_rfl) (fun _ _ _ h => h) hHeld (Or.inl ⟨by rfl, fun w' hSw => by obtain ⟨_, _, hc⟩ := hSw; go_simp⟩) ?_
    simp only [Act.put, List.setIfInBounds_toArray, List.set_cons_zero, List.set_cons_succ]
    refine held_take 9 (.int .i64 p.len) rfl (by kernel_rfl) (by kernel_rfl) (by kernel_rfl) (fun _ _ _ h => h) hHeld (Or.inl ⟨by rfl, fun w' hSw => by (try dsimp only at hSw); (try subst hSw); go_simp⟩) ?_
    simp only [Act.put, List.setIfInBounds_toArray, List.set_cons_zero, List.set_cons_succ]
    refine held_step 3 rfl (by kernel_rfl) (fun K hK => ?_)
    go_simp
    refine (hobj.out _ kd).mono ?_; rintro e w5 ⟨v, rfl, A, k, rfl, _, hE, k5, _⟩
    obtain ⟨x2, _, x4, x5, _⟩ := (od.kept k5 (by simp)).cells
    have k15 := kd.trans k5
    go_wp2_with fail
    refine hK.out _ _ ⟨x2, x4, x5⟩ (fun hHeld => ?_)
    clear hK K
    refine held_step 10 rfl (by kernel_rfl) (fun K hK => ?_)
    go_simp
    refine (hb.out _ A k hE).mono ?_; rintro e w6 ⟨rfl, k6⟩
    obtain ⟨y2, _, y4, y5, _⟩ := ((od.kept k5 (by simp)).kept k6 (by simp)).cells
    have kend := k15.trans k6
    go_wp2_with fail
    refine hK.out _ _ ⟨y2, y4, y5⟩ (fun hHeld => ?_)
    clear hK K
    refine held_take 11 (.string bs) rfl (by kernel_rfl) (by kernel_rfl) (by kernel_rfl) (fun _ _ _ h => h) hHeld (Or.inl ⟨by rfl, fun w' hSw => by (try dsimp only at hSw); (try subst hSw); go_simp⟩) ?_
    simp only [Act.put, List.setIfInBounds_toArray, List.set_cons_zero, List.set_cons_succ]
    refine held_take 12 (.int .i64 (errB true)) rfl (by kernel_rfl) (by kernel_rfl) (by kernel_rfl) (fun _ _ _ h => h) hHeld (Or.inl ⟨by rfl, fun w' hSw => by (try dsimp only at hSw); (try subst hSw); go_simp⟩) ?_
    simp only [Act.put, List.setIfInBounds_toArray, List.set_cons_zero, List.set_cons_succ]
    refine held_take 13 (.string bs) rfl (by kernel_rfl) (by kernel_rfl) (by kernel_rfl) (fun _ _ _ h => h) hHeld (Or.inl ⟨by rfl, fun w' hSw => by (try dsimp only at hSw); (try subst hSw); go_simp⟩) ?_
    simp only [Act.put, List.setIfInBounds_toArray, List.set_cons_zero, List.set_cons_succ]
    refine held_take 14 (.int .i64 (errB true)) rfl (by kernel_rfl) (by kernel_rfl) (by kernel_rfl) (fun _ _ _ h => h) hHeld (Or.inl ⟨by rfl, fun w' hSw => by (try dsimp only at hSw); (try subst hSw); go_simp⟩) ?_
    simp only [Act.put, List.setIfInBounds_toArray, List.set_cons_zero, List.set_cons_succ]
    refine wpAnyH_done (by kernel_rfl) ?_ _
    clear hHeld
    replace kend := Lib.hid kend
    go_wp2
    go_ret2
    exact ⟨rfl, kend.out⟩
  ·have d1 : decide (p.off + p.len ≤ 1024) = false := by simpa using hr
   simp only [d1] at hwi
   have e1 : rdE σ p = 15 := by unfold rdE; rw [if_neg hcN, if_pos (.inl (by omega))]
   have e2 : rdD σ p = [] := by unfold rdD; rw [if_neg (by rw [e1]; decide)]
   rw [e1, e2]
   clear h hc e1 e2 hcN hr d1
   go_enter Tryz.func159, Tryz.ntmps159
   go_wp2_with (first
    | (refine wpList_load_op p rfl (.tmp 7) rfl w1.heap.size rfl b0 ?_)
    | (refine wpList_store_op p zeroOp rfl rfl (.tmp 6) (.tmp 8) rfl (w1.heap.size + 1) rfl rfl z1 ?_; intro w2 b2 k2)
    | (refine wpList_load_opB p rfl (.tmp 6) rfl (w1.heap.size + 1) rfl b2 ?_))
   have k12 : Only [] w1 w2 := k1.then k2 (fun i hi => .inr (by simp at hi; omega))
   have o2 : OpB w2 (w1.heap.size + 1) p := ⟨b2⟩
   refine (hcur _ k12).mono ?_; rintro e w3 ⟨rfl, k3⟩
   have k13 := k12.trans k3
   have o3 := o2.kept k3 (by simp)
   clear k2 k3 o2 b2 k12 hcur b0 z1 k0 k1
   obtain ⟨_, _, c4, c5, _⟩ := o3.cells
   go_wp2_with fail
   refine (hwi _).mono ?_; rintro e w4 ⟨rfl, rfl⟩
   go_wp2
   go_ret2
   exact ⟨rfl, k13⟩
end
end Go.Proofs.YtmelaiefbpdifaaGreatDoor.Srv
