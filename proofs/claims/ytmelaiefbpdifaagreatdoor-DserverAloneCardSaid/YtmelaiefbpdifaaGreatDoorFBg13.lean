/- begin, loadable, sound: what a server begins with. -/
import Derived.Test.YtmelaiefbpdifaaGreatDoorFHn13
namespace Go.Proofs.YtmelaiefbpdifaaGreatDoor.Srv
open Go.RowKit Go.Maps
open Pgs (Pg pgE keyB headB ldL ldOk errL load_at under_at)
def boCh (b : Nat) : List Ch := [⟨bK, be4 b, false⟩]
def bootN (M : List Rw) : Nat := numOf (valL M bK)
def Begun (N : Nat) (M : List Rw) (s : St) (n : Nat) (b x : Int) (M' : List Rw) (s' : St) (n' : Nat) (f' : Bool) : Prop :=
 (bootN M = 4294967295 ∧ b = 0 ∧ x = 16 ∧ M' = M ∧ s' = s ∧ n' = n ∧ f' = false) ∨
 (bootN M < 4294967295 ∧ Commits5 N M s n false (boCh (bootN M + 1)) x M' s' n' f' ∧ b = if x = 0 then (bootN M : Int) + 1 else 0)
def BegunM (w w1 w' : World) (F : List Nat) (rp mb lp p N : Nat) (M : List Rw) (s : St) (n : Nat) (e : Ending) : Prop :=
 ∃ b x M' s' n' f' F', e = .returned (.tuple #[.int .u32 b, .int .i64 x]) ∧ Begun N M s n b x M' s' n' f' ∧ Own5 w w' F' rp mb lp p s' n' f' M' ∧ Only (mb :: lp :: F) w1 w' ∧ ∀ j ∈ F', j ∈ F ∨ w1.heap.size ≤ j
set_option maxRecDepth 100000 in
set_option maxHeartbeats 4000000 in
theorem begin_any {w w1 : World} {F : List Nat} {rp mb lp p n N : Nat} {s : St} {M : List Rw} (h : Own5 w w1 F rp mb lp p s n false M) (hN : s.firm.length = 41 + N) (hM : Good N M) (hn : n < 4294967296) (hlate : s.late.length + 200 ≤ 1048576) :
  Calls Tryz.prog 46 #[.pointer (some ⟨rp, 0, none⟩)] w1 fun e w' => BegunM w w1 w' F rp mb lp p N M s n e := by
 have hv : (valL M bK).length ≤ 200 := by
  unfold valL
  split
  ·rename_i r hr
   exact (hM.small r (findR_mem hr).1).2.2
  ·simp
 have hget := get_any w1 rp mb lp M bK (by decide) h.rows
 change Calls _ _ #[_, .string ⟨#[66]⟩] w1 _ at hget
 have hnum := fun W => numberOf_any W (valL M bK) (by omega)
 have hlt := numOf_lt (valL M bK)
 have hby := fun W (hb : bootN M < 4294967295) => bytesOf_any W ((bootN M : Int) + 1) (bootN M + 1) (by omega) (by omega)
 have hcm := fun W (k : Only [] w1 W) B (hB : Els chE 3 W B (boCh (bootN M + 1))) => (h.keep k).commit B 1 (boCh (bootN M + 1)) hN hM hn hB (by simp [okayC, boCh, bK, be4_length]) (by simp [boCh]) (by simp [boCh]) hlate
 have hfin := fun W (k : Only [] w1 W) (hb : bootN M = 4294967295) => show BegunM w w1 W F rp mb lp p N M s n (.returned (.tuple #[.int .u32 0, .int .i64 16])) from
  ⟨0, 16, M, s, n, false, F, rfl, .inl ⟨hb, rfl, rfl, rfl, rfl, rfl, rfl⟩, h.keep k, k.more (by simp), fun j hj => .inl hj⟩
 have hfin2 := fun (x : Int) M' s' n' f' F' W (hb : bootN M < 4294967295) (hc : Commits5 N M s n false (boCh (bootN M + 1)) x M' s' n' f') (h5 : Own5 w W F' rp mb lp p s' n' f' M') (k : Only (mb :: lp :: F) w1 W) (hF : ∀ j ∈ F', j ∈ F ∨ w1.heap.size ≤ j) =>
  show BegunM w w1 W F rp mb lp p N M s n (.returned (.tuple #[.int .u32 (if x = 0 then (bootN M : Int) + 1 else 0), .int .i64 x])) from
  ⟨_, x, M', s', n', f', F', rfl, .inr ⟨hb, hc, rfl⟩, h5, k, hF⟩
 have hbe : boCh (bootN M + 1) = [⟨bK, be4 (bootN M + 1), false⟩] := rfl
 have hbN : numOf (valL M bK) = bootN M := rfl
 rw [hbN] at hnum hlt
 obtain ⟨es, hes⟩ : ∃ es, strOf (be4 (bootN M + 1)) = es := ⟨_, rfl⟩
 simp only [hes] at hby
 clear h hv hN hM hn hlate hbN
 generalize (findR M bK).isSome = b at *
 generalize strOf (valL M bK) = vs at *
 obtain ⟨y, hy⟩ : ∃ y : Nat, y = bootN M := ⟨_, rfl⟩
 replace hcm := Lib.hid hcm
 replace hfin := Lib.hid hfin
 replace hfin2 := Lib.hid hfin2
 replace hbe := Lib.hid hbe
 replace hes := Lib.hid hes
 replace hnum := Lib.hid hnum
 by_cases hmax : bootN M = 4294967295
 ·have hw : IntKind.u32.wrap ((bootN M : Int) + 1) = 0 := by rw [hmax, IntKind.wrap_u32]; decide
  have hfin' := fun W k => hfin.out W k hmax
  replace hfin' := Lib.hid hfin'
  replace hmax := Lib.hid hmax
  clear hby hlt
  generalize (bootN M : Int) = yy at *
  go_enter Tryz.func46, Tryz.ntmps46
  go_wp2_with fail
  refine hget.mono ?_; rintro e w2 ⟨rfl, k2⟩
  go_wp2_with fail
  refine (hnum.out _).mono ?_; rintro e w3 ⟨rfl, k3⟩
  have k13 := k2.trans k3
  go_wp2
  go_ret2
  exact hfin'.out _ k13
 ·have hb : bootN M < 4294967295 := by omega
  have hw : IntKind.u32.wrap ((bootN M : Int) + 1) = (bootN M : Int) + 1 := by rw [IntKind.wrap_u32]; omega
  have hne : (((bootN M : Int) + 1) == 0) = false := by rw [beq_eq_false_iff_ne]; omega
  have hne2 : ¬ ((bootN M : Int) + 1) = 0 := by omega
  have hby' := fun W => hby W hb
  have hfin' := fun x M' s' n' f' F' W hc h5 k hF => hfin2.out x M' s' n' f' F' W hb hc h5 k hF
  replace hby' := Lib.hid hby'
  replace hfin' := Lib.hid hfin'
  replace hb := Lib.hid hb
  clear hby hmax hlt
  have hmod : ((bootN M : Int) + 1) % 4294967296 = (bootN M : Int) + 1 := by have := hb.out; omega
  obtain ⟨yb, hyb⟩ : ∃ yb, yb = (bootN M : Int) + 1 := ⟨_, rfl⟩
  rw [← hyb] at hne hne2 hby' hfin'
  have hmod2 : ((bootN M : Int) + 1) % 4294967296 = yb := hmod.trans hyb.symm
  clear hmod hw
  replace hyb := Lib.hid hyb
  generalize (bootN M : Int) = yy at hmod2 hnum
  go_enter Tryz.func46, Tryz.ntmps46
  go_wp2_with fail
  refine hget.mono ?_; rintro e w2 ⟨rfl, k2⟩
  go_wp2_with fail
  refine (hnum.out _).mono ?_; rintro e w3 ⟨rfl, k3⟩
  have k13 := k2.trans k3
  go_wp2_with fail
  refine (hby'.out _).mono ?_; rintro e w4 ⟨rfl, k4⟩
  have k14 := k13.trans k4
  have k5 : Only [] w1 (w4.alloc (.cells #[.string ⟨#[66]⟩, .string es, .bool false] 133)) := k14.alloc _
  have hE := chE_new (w := w4) (gn := false) (kl := bK) (ks := ⟨#[66]⟩) rfl hes.out
  rw [← hbe.out] at hE
  replace hE := Lib.hid hE
  clear k2 k3 k13 k4 k14 hget hnum
  go_wp2_with fail
  refine (hcm.out _ k5 _ hE.out).mono ?_
  rintro e w6 ⟨x, M', s', n', f', F', rfl, hc, h5, k6, hF6⟩
  have hE2 := hfin'.out x M' s' n' f' F' w6 hc h5 ((k5.more (by simp)).then k6 (fun i hi => .inl hi)) (fun j hj => (hF6 j hj).imp id (fun hh => Nat.le_trans k5.size hh))
  replace hE2 := Lib.hid hE2
  clear hfin' hc h5 k6 hF6 k5
  by_cases hx : x = 0
  ·subst hx
   go_wp2
   go_ret2
   exact hE2.out
  ·have hx2 : (x == 0) = false := by rw [beq_eq_false_iff_ne]; exact hx
   have hx3 : (x != 0) = true := by rw [bne_iff_ne]; exact hx
   go_wp2
   go_ret2
   have := hE2.out
   first | exact this | (rw [if_neg hx] at this; exact this)
end Go.Proofs.YtmelaiefbpdifaaGreatDoor.Srv
