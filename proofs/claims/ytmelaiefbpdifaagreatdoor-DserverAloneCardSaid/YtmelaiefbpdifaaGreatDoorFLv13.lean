/- A living server: its steps are plain functions of its rows; a new one. -/
import Derived.Test.YtmelaiefbpdifaaGreatDoorFTh13
namespace Go.Proofs.YtmelaiefbpdifaaGreatDoor.Srv
open Go.RowKit Go.Maps
open Pgs (Pg keyB headB find allZ chgL)
theorem did_mono {C C' : Com} {σ σ' : Sv} {p : Pk} {d : List UInt8} {e : Int} (hC : ∀ l e M', C σ.M l e M' → C' σ.M l e M') (h : Did C σ p d e σ') : Did C' σ p d e σ' := by
 have hs : ∀ x o ch, Settled C σ x o ch e σ' → Settled C' σ x o ch e σ' := fun x o ch h => by
  obtain ⟨M', hc, he⟩ := h
  exact ⟨M', hC _ _ _ hc, he⟩
 unfold Did at h ⊢
 split
 ·rename_i h1; rw [if_pos h1] at h; exact h
 ·rename_i h1
  rw [if_neg h1] at h
  split
  ·rename_i h2; rw [if_pos h2] at h; exact h
  ·rename_i h2
   rw [if_neg h2] at h
   split
   ·rename_i h3
    rw [if_pos h3] at h
    refine ⟨h.1, ?_⟩
    split
    ·rename_i h4; have := h.2; rw [if_pos h4] at this; exact this
    ·rename_i h4; have := h.2; rw [if_neg h4] at this; exact hs _ _ _ this
   ·rename_i h3
    rw [if_neg h3] at h
    split
    ·rename_i h4
     rw [if_pos h4] at h
     refine ⟨h.1, ?_⟩
     have h := h.2
     split
     ·rename_i h5; rw [if_pos h5] at h; exact h
     ·rename_i h5
      rw [if_neg h5] at h
      split
      ·rename_i h6; rw [if_pos h6] at h; exact h
      ·rename_i h6
       rw [if_neg h6] at h
       split
       ·rename_i h7; rw [if_pos h7] at h; exact h
       ·rename_i h7; rw [if_neg h7] at h; exact hs _ _ _ h
    ·rename_i h4
     rw [if_neg h4] at h
     refine ⟨h.1, ?_⟩
     have h := h.2
     split
     ·rename_i h5; rw [if_pos h5] at h; exact h
     ·rename_i h5; rw [if_neg h5] at h; exact hs _ _ _ h
theorem exec_mono {C C' : Com} {σ σ' : Sv} {p r : Pk} {ok : Bool} (hC : ∀ l e M', C σ.M l e M' → C' σ.M l e M') (h : Executed C σ p r ok σ') : Executed C' σ p r ok σ' := by
 obtain ⟨d, e, σ1, h1, h2⟩ := h
 exact ⟨d, e, σ1, did_mono hC h1, h2⟩
theorem handled_mono {C C' : Com} {σ σ' : Sv} {p r : Pk} {ok : Bool} (hC : ∀ l e M', C σ.M l e M' → C' σ.M l e M') (h : Handled C σ p r ok σ') : Handled C' σ p r ok σ' := by
 rcases h with h | h | ⟨h1, h2, h3, h4⟩ | h | h
 ·exact .inl h
 ·exact .inr (.inl h)
 ·exact .inr (.inr (.inl ⟨h1, h2, h3, exec_mono hC h4⟩))
 ·exact .inr (.inr (.inr (.inl h)))
 ·exact .inr (.inr (.inr (.inr h)))
theorem settled_puts5 {σ σ' : Sv} {x : Nat} {o : List Pg} {ch : List Ch} {e : Int} (h : Settled (Puts σ.N) σ x o ch e σ') : e ≠ 5 := by
 obtain ⟨M', hc, _⟩ := h
 rcases hc with ⟨_, rfl, _⟩ | ⟨_, _, rfl, _⟩ | ⟨_, _, rfl, _⟩ <;> decide
theorem did_not5 {C : Com} {σ σ' : Sv} {p : Pk} {d : List UInt8} {e : Int} (hC : ∀ x o ch, Settled C σ x o ch e σ' → e ≠ 5) (h : Did C σ p d e σ') : e ≠ 5 := by
 unfold Did at h
 split at h
 ·obtain ⟨_, rfl, _⟩ := h
  unfold wrE
  split
  ·decide
  ·split
   ·decide
   ·split <;> decide
 ·split at h
  ·obtain ⟨_, rfl, _⟩ := h
   unfold rdE
   split
   ·decide
   ·split <;> decide
  ·split at h
   ·obtain ⟨_, h⟩ := h
    split at h
    ·obtain ⟨rfl, _⟩ := h; decide
    ·exact hC _ _ _ h
   ·split at h
    ·obtain ⟨_, h⟩ := h
     split at h
     ·obtain ⟨rfl, _⟩ := h; decide
     ·split at h
      ·obtain ⟨rfl, _⟩ := h; decide
      ·split at h
       ·obtain ⟨rfl, _⟩ := h; decide
       ·exact hC _ _ _ h
    ·obtain ⟨_, h⟩ := h
     split at h
     ·obtain ⟨rfl, _⟩ := h; decide
     ·exact hC _ _ _ h
theorem handled_up {σ σ' : Sv} {p r : Pk} {ok : Bool} (h : Handled (Puts σ.N) σ p r ok σ') : σ'.up = σ.up := by
 rcases h with ⟨_, _, _, rfl⟩ | ⟨_, _, _, _, rfl⟩ | ⟨_, _, _, d, e, σ1, h1, h2⟩ | ⟨_, _, _, _, _, rfl⟩ | ⟨_, _, _, _, _, rfl⟩
 ·rfl
 ·rfl
 ·obtain ⟨_, _, _, a4, _⟩ := did_same h1
  rcases h2 with ⟨h5, _⟩ | ⟨_, _, _, rfl⟩
  ·exact absurd h5 (did_not5 (fun x o ch hs => settled_puts5 hs) h1)
  ·exact a4
 ·rfl
 ·rfl
def SrvL (w w1 : World) (R : List Nat) (sb dp : Nat) (σ : Sv) (c : Nat) : Prop := ∃ s n, SrvM w w1 R sb dp σ s n false c ∧ Live s ∧ s.late.length = 0 ∧ n ≤ c + 1 ∧ σ.up = true
section
variable {w w1 w2 : World} {R : List Nat} {sb dp c : Nat} {σ : Sv}
theorem SrvL.keep (h : SrvL w w1 R sb dp σ c) (k : Only [] w1 w2) : SrvL w w2 R sb dp σ c := by
 obtain ⟨s, n, h, h2⟩ := h
 exact ⟨s, n, h.keep k, h2⟩
theorem SrvL.beside {S : List Nat} (h : SrvL w w1 R sb dp σ c) (k : Only S w1 w2) (hw : Only [] w w2) (hS : ∀ i ∈ S, i ∉ R) : SrvL w w2 R sb dp σ c := by
 obtain ⟨s, n, h, h2⟩ := h
 exact ⟨s, n, h.beside k hw hS, h2⟩
theorem SrvL.ok (h : SrvL w w1 R sb dp σ c) : σ.Ok c := by
 obtain ⟨s, n, h, _⟩ := h
 exact h.ok
theorem SrvL.only (h : SrvL w w1 R sb dp σ c) : Only [] w w1 := by
 obtain ⟨s, n, h, _⟩ := h
 exact h.only
theorem SrvL.new (h : SrvL w w1 R sb dp σ c) : ∀ i ∈ R, w.heap.size ≤ i ∧ i < w1.heap.size := by
 obtain ⟨s, n, h, _⟩ := h
 exact h.new
theorem SrvL.up (h : SrvL w w1 R sb dp σ c) : σ.up = true := by
 obtain ⟨s, n, _, _, _, _, h⟩ := h
 exact h
def LiveM (w w1 w' : World) (R : List Nat) (sb dp : Nat) (σ : Sv) (c : Nat) (p : Pk) (e : Ending) : Prop :=
 ∃ r ok σ' R', e = .returned (.tuple #[pkV r, .bool ok]) ∧ Handled (Puts σ.N) σ p r ok σ' ∧ SrvL w w' R' sb dp σ' (c + 1) ∧ Only R w1 w' ∧ ∀ j ∈ R', j ∈ R ∨ w1.heap.size ≤ j
theorem SrvL.handle (h : SrvL w w1 R sb dp σ c) (hcc : c < 1000000) (p : Pk) (hp : p.Ok) :
  Calls Tryz.prog 23 #[.pointer (some ⟨sb, 0, none⟩), pkV p] w1 fun e w' => LiveM w w1 w' R sb dp σ c p e := by
 obtain ⟨s, n, ⟨rp, mb, lp, lb, F, vs, D, h⟩, hs, hl, hn, hu⟩ := h
 refine (h.handleC hcc p hp (fun _ => ⟨rfl, by omega, by omega⟩)).mono ?_
 rintro e w' ⟨r, ok, σ', s', n', f', R', rfl, hst, hm, hk, hR⟩
 rcases hst with ⟨h1, rfl, rfl, rfl⟩ | ⟨_, h1, l, er, hc, _⟩
 ·have h2 := handled_mono (C' := Puts σ.N) (fun _ _ _ hh => hh.elim) h1
  exact ⟨r, ok, σ', R', rfl, h2, ⟨s', n', hm, hs, hl, by omega, (handled_up h2).trans hu⟩, hk, hR⟩
 ·have hP := fun l e M' (hc : Commits5 σ.N σ.M s n false l e M' s' n' f') => puts_of hs h.len h.ok.good (by omega) hc
  have h2 := handled_mono (C' := Puts σ.N) (fun l e M' hc => (hP l e M' hc).1) h1
  obtain ⟨_, q1, q2, q3, rfl, q4⟩ := hP l er _ hc
  exact ⟨r, ok, σ', R', rfl, h2, ⟨s', n', hm, q1, by omega, by omega, (handled_up h2).trans hu⟩, hk, hR⟩
theorem SrvL.epoch (h : SrvL w w1 R sb dp σ c) (x : Int) (hx : U x) :
  Calls Tryz.prog 18 #[.pointer (some ⟨sb, 0, none⟩), .int .u32 x] w1 fun e w' => e = .returned (.int .u32 (epN σ.M x.toNat : Int)) ∧ Only [] w1 w' := by
 obtain ⟨s, n, ⟨rp, mb, lp, lb, F, vs, D, h⟩, _⟩ := h
 exact h.epoch x hx
theorem SrvL.object (h : SrvL w w1 R sb dp σ c) (x : Int) (y : Nat) (hx : x = y) (hy : y < 4294967296) :
  Calls Tryz.prog 19 #[.pointer (some ⟨sb, 0, none⟩), .int .u32 x] w1 fun e w' => ∃ v, e = .returned v ∧ NewPg w1 w' v (objL σ y) := by
 obtain ⟨s, n, ⟨rp, mb, lp, lb, F, vs, D, h⟩, _⟩ := h
 exact h.object x y hx hy
theorem SrvL.sure (h : SrvL w w1 R sb dp σ c) (x : Int) (y : Nat) (hx : x = y) (hy : y < 4294967296) :
  Calls Tryz.prog 27 #[.pointer (some ⟨sb, 0, none⟩), .int .u32 x] w1 fun e w' => ∃ v, e = .returned v ∧ NewPg w1 w' v (sureL σ.M y) := by
 obtain ⟨s, n, ⟨rp, mb, lp, lb, F, vs, D, h⟩, _⟩ := h
 exact h.sure x y hx hy
theorem SrvL.room (h : SrvL w w1 R sb dp σ c) :
  Calls Tryz.prog 28 #[.pointer (some ⟨sb, 0, none⟩)] w1 fun e w' => e = .returned (.int .i64 (roomI σ)) ∧ Only [] w1 w' := by
 obtain ⟨s, n, ⟨rp, mb, lp, lb, F, vs, D, h⟩, _⟩ := h
 exact h.room
theorem SrvL.boot (h : SrvL w w1 R sb dp σ c) : Calls Tryz.prog 21 #[.pointer (some ⟨sb, 0, none⟩)] w1 fun e w' => e = .returned (.int .u32 σ.boot) ∧ w' = w1 := by
 obtain ⟨s, n, ⟨rp, mb, lp, lb, F, vs, D, h⟩, _⟩ := h
 exact h.bootC
end
def NewS (w w1 w' : World) (F : List Nat) (dp N : Nat) (me : Int) (e : Ending) : Prop :=
 ∃ sb R M', e = .returned (.tuple #[.pointer (some ⟨sb, 0, none⟩), .int .i64 0]) ∧ SrvL w w' R sb dp (srv0 N me 1 M') 0 ∧ Only F w1 w' ∧ (∀ j ∈ R, j ∈ F ∨ w1.heap.size ≤ j) ∧ Good N M' ∧ ∀ k, getR M' k = afterK (boCh 1) [] k
theorem OwnD.startL {w w1 : World} {F : List Nat} {dp N : Nat} (h : OwnD w w1 F dp (fresh (41 + N))) (hN : 1 ≤ N) (hN2 : N ≤ 983) (me : Int) (hme : 1 ≤ me ∧ me ≤ 255) :
  Calls Tryz.prog 15 #[.pointer (some ⟨dp, 0, none⟩), .int .i64 me] w1 fun e w' => NewS w w1 w' F dp N me e := by
 obtain ⟨e1, e2, e3⟩ := open_fresh (41 + N) (by omega)
 have hfl : (fresh (41 + N)).firm.length = 41 + N := fresh_firm _
 have hla : (fresh (41 + N)).late.length = 0 := rfl
 have hpar : parseL (dataS (fresh (41 + N))) = some [] := fresh_parse _
 refine (OwnD.startC h me ⟨by omega, by omega⟩ (by rw [hla]; decide) (by rw [e2]; exact hfl) (by rw [e2, hla]; decide) (by rw [e3]; decide) (fun M hM => by rw [e2, hpar] at hM; injection hM with hM; rw [← hM]; exact Good.nil _)).mono ?_
 have hb0 : bootN [] = 0 := rfl
 have hputs : ∀ x M' s' n' f', Commits5 N [] (fresh (41 + N)) 0 false (boCh (0 + 1)) x M' s' n' f' → x = 0 ∧ Good N M' ∧ (∀ k, getR M' k = afterK (boCh 1) [] k) ∧ Live s' ∧ s'.late.length = 0 ∧ f' = false ∧ n' ≤ 1 := fun x M' s' n' f' hc => by
  obtain ⟨q0, q1, q2, q3, q4, q5⟩ := puts_of (fresh_live _) hfl (Good.nil _) (by decide) hc
  rcases boot_puts q0 with ⟨_, _, h⟩ | ⟨h1, h2, h3⟩
  ·simp at h; omega
  ·exact ⟨h1, h2, h3, q1, by omega, q4, by omega⟩
 rintro e w' (⟨x, hr, _, _⟩ | ⟨sb, R, b, M, M', s', n', f', _, _, hp, _, hb, he, hm, hk, hR⟩)
 ·exfalso
  rcases hr with ⟨h1, _⟩ | ⟨_, h1⟩
  ·exact h1 hme
  ·rcases h1 with (⟨h1, _⟩ | ⟨_, h1, _⟩) | ⟨M, _, hp, h1⟩
   ·exact h1 e1
   ·rw [e2, hpar] at h1; cases h1
   ·rw [e2, hpar] at hp
    injection hp with hp
    subst hp
    rcases h1 with ⟨h1, _⟩ | ⟨_, hx, b, M', s', n', f', hb⟩
    ·exact absurd h1 (by decide +kernel)
    ·rcases hb with ⟨h1, _⟩ | ⟨_, hc, _⟩
     ·rw [hb0] at h1; exact absurd h1 (by decide)
     ·rw [e2, e3, hb0] at hc
      exact hx (hputs _ _ _ _ _ hc).1
 ·rw [e2, hpar] at hp
  injection hp with hp
  subst hp
  rw [e2, e3] at hb
  rcases hb with ⟨h1, _⟩ | ⟨_, hc, hb⟩
  ·rw [hb0] at h1; exact absurd h1 (by decide)
  ·rw [hb0] at hc hb
   obtain ⟨_, q1, q2, q3, q4, rfl, q5⟩ := hputs _ _ _ _ _ hc
   have hb1 : b = 1 := by rw [hb, if_pos rfl]; rfl
   subst hb1
   exact ⟨sb, R, M', he, ⟨s', n', hm, q3, q4, by omega, rfl⟩, hk, hR, q1, q2⟩
end Go.Proofs.YtmelaiefbpdifaaGreatDoor.Srv
