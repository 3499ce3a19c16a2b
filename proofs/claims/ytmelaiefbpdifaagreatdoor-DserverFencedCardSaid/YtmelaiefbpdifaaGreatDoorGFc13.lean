/- DserverFenced: what a packet, what a crash comes to, as the law asks. -/
import Derived.Test.YtmelaiefbpdifaaGreatDoorGK8
namespace Go.Proofs.YtmelaiefbpdifaaGreatDoor.Srv
open Go.RowKit Go.Maps
open Pgs (Pg okBytes bytesL)
def pB (p : Pk) (b : Int) : Pk := { p with asked := b }
def agR (p : Pk) (x : Ac) : Bool := (x.p.frm == p.frm) && ((x.p.life == p.life) && (x.p.seq == p.seq))
def SeatsOf (l : List Ac) (k : Nat) (σ : Sv) : Prop := ∀ j, σ.seat j = noSeat ∨ ∃ x ∈ l.take k, x.p.frm = (j : Int) ∧ (σ.seat j).life = x.p.life ∧ (σ.seat j).seq = x.p.seq
structure Ring (l : List Ac) (k : Nat) (σ : Sv) (P : List Rw → Prop) (bt : Nat) : Prop where
 num : σ.N = 99
 me : σ.me = 1
 boot : σ.boot = (bt : Int)
 few : bt ≤ k + 1
 sane : Sane σ.M bt
 seats : SeatsOf l k σ
 rows : ∀ Mo, P Mo → Sane Mo bt ∧ ∀ y, y < 4294967296 → epN σ.M y ≤ epN Mo y ∨ epN Mo y = 0
structure Saw (l : List Ac) (k : Nat) (σ σ' : Sv) (p r : Pk) (ok : Bool) : Prop where
 ep : ∀ y, y < 4294967296 → epN σ'.M y = epN σ.M y ∨ (ok = true ∧ (y : Int) = p.file ∧ r.err = 0 ∧ ((p.code = 4 ∧ p.frm = 0 ∧ p.epoch = (epN σ'.M y : Int) ∧ epN σ.M y < epN σ'.M y) ∨ (p.code = 5 ∧ epN σ'.M y = 0)))
 ob : ∀ y, y < 4294967296 → objL σ' y = objL σ y ∨ (ok = true ∧ (y : Int) = p.file ∧ r.err = 0 ∧ (p.code = 4 ∨ p.code = 5 ∨ (p.code = 1 ∧ p.epoch = (epN σ.M y : Int))))
 told : ok = true → p.code = 2 → r.err = 0 → (okBytes (objL σ p.file.toNat) p.off p.len = true ∧ r.data = strOf (bytesL (objL σ p.file.toNat) p.off p.len)) ∨ (l.take k).any (agR p) = true
theorem seats_mono {l : List Ac} {k : Nat} {σ : Sv} (h : SeatsOf l k σ) : SeatsOf l (k + 1) σ := fun j => by
 rcases h j with h | ⟨x, hx, h⟩
 ·exact .inl h
 ·exact .inr ⟨x, (List.take_sublist_take_left (by omega)).subset hx, h⟩
section
variable {l : List Ac} {k bt c : Nat} {σ σ' : Sv} {P P' : List Rw → Prop} {p r : Pk} {ok : Bool}
theorem Ring.skip (h : Ring l k σ P bt) : Ring l (k + 1) σ P bt := ⟨h.num, h.me, h.boot, by have := h.few; omega, h.sane, seats_mono h.seats, h.rows⟩
theorem Saw.still (h : ok = false ∨ (ok = true ∧ (l.take k).any (agR p) = true)) : Saw l k σ σ p r ok :=
 ⟨fun _ _ => .inl rfl, fun _ _ => .inl rfl, fun ho _ _ => by
  rcases h with h | h
  ·rw [h] at ho; cases ho
  ·exact .inr h.2⟩
theorem file_of (hp : p.Ok) {y : Nat} (h : y = p.file.toNat) : (y : Int) = p.file := by have := hp.file.1; omega
theorem read_tells (hk : σ.Ok c) (hp : p.Ok) (he : rdE σ p = 0) : okBytes (objL σ p.file.toNat) p.off p.len = true := by
 have ho := obj_right hk p.file.toNat
 obtain ⟨a1, a2⟩ := hp.off
 obtain ⟨b1, b2⟩ := hp.len
 unfold rdE at he
 split at he
 ·cases he
 split at he
 ·cases he
 unfold Pgs.okBytes
 rw [ho, Pgs.inB_of a1 b1 (by omega)]
 rfl
theorem Ring.step {x : Ac} (h : Ring l k σ P bt) (hx : l[k]? = some x) (hk : σ.Ok c) (hp : (pB x.p bt).Ok) (hPu : σ.up = true → P = fun Mo => Mo = σ.M) (hs : StepQ false σ (pB x.p bt) r ok σ' P P') :
  Ring l (k + 1) σ' P' bt ∧ Saw l k σ σ' (pB x.p bt) r ok := by
 obtain ⟨p, hpq⟩ : ∃ p, p = pB x.p bt := ⟨_, rfl⟩
 have hfrm : x.p.frm = p.frm ∧ x.p.life = p.life ∧ x.p.seq = p.seq ∧ p.asked = bt := by rw [hpq]; exact ⟨rfl, rfl, rfl, rfl⟩
 rw [← hpq] at hs hp ⊢
 have hlt : k < l.length := by
  rcases Nat.lt_or_ge k l.length with hh | hh
  ·exact hh
  ·rw [List.getElem?_eq_none hh] at hx; cases hx
 have hxm : x ∈ l.take (k + 1) := by
  rw [List.take_add_one, hx]
  simp
 have hag : ∀ j, σ.seat j ≠ noSeat → (j : Int) = p.frm → (σ.seat j).life = p.life → (σ.seat j).seq = p.seq → (l.take k).any (agR p) = true := fun j hn hj hl hq => by
  rcases h.seats j with hh | ⟨y, hy, e1, e2, e3⟩
  ·exact absurd hh hn
  ·rw [List.any_eq_true]
   refine ⟨y, hy, ?_⟩
   unfold agR
   rw [e1, hj, ← e2, hl, ← e3, hq]
   simp
 rcases hs with ⟨hh, hup, hP1, hP0⟩ | ⟨_, hu, ht, _, _, hr, ho, hσ', hP'⟩
 ·have hrow : σ' = σ → Ring l (k + 1) σ' P' bt := fun e => by
   subst e
   have : P' = P := by
    cases hu : σ'.up with
    | true => rw [hP1 hu, hPu hu]
    | false => exact (hP0 hu).1
   rw [this]
   exact h.skip
  rcases hh with ⟨_, _, ho, e⟩ | ⟨_, ha, _⟩ | ⟨⟨hu, ht⟩, _, hj, hex⟩ | ⟨⟨_, ht⟩, _, hj, _, _, e⟩ | ⟨_, _, _, _, ho, e⟩
  ·refine ⟨hrow e, ?_⟩
   rw [e]
   exact Saw.still (.inl ho)
  ·exact absurd (hfrm.2.2.2.trans h.boot.symm) ha
  ·obtain ⟨d, e, σ1, q1, hr, ho, hσ'⟩ := exec_live hex
   subst hr
   subst ho
   subst hσ'
   obtain ⟨a1, a2, a3, _, a5⟩ := did_same q1
   have hD := did_done hk hp ht.2.2.2 h.sane q1
   have hfr : ((p.frm.toNat : Nat) : Int) = p.frm := by have := ht.1.2.2.1.1; omega
   refine ⟨⟨a1.trans h.num, a2.trans h.me, a3.trans h.boot, by have := h.few; omega, hD.sane, fun j => ?_, fun Mo hMo => ?_⟩, fun y hy => ?_, fun y hy => ?_, fun _ hc he => ?_⟩
   ·by_cases hjj : j = p.frm.toNat
    ·right
     refine ⟨x, hxm, by rw [hfrm.1, hjj]; exact hfr.symm, ?_⟩
     show ((if j = p.frm.toNat then doneL (σ.seat p.frm.toNat) p.life p.seq _ else σ1.seat j) : Sat).life = _ ∧ ((if j = p.frm.toNat then doneL (σ.seat p.frm.toNat) p.life p.seq _ else σ1.seat j) : Sat).seq = _
     rw [if_pos hjj]
     unfold doneL
     rw [if_pos (show judgeL (σ.seat p.frm.toNat) p.life p.seq = 1 from hj)]
     exact ⟨hfrm.2.1.symm, hfrm.2.2.1.symm⟩
    ·have := seats_mono h.seats j
     show (if j = p.frm.toNat then _ else σ1.seat j) = noSeat ∨ ∃ x ∈ l.take (k + 1), x.p.frm = (j : Int) ∧ ((if j = p.frm.toNat then _ else σ1.seat j) : Sat).life = _ ∧ ((if j = p.frm.toNat then _ else σ1.seat j) : Sat).seq = _
     rw [if_neg hjj, a5]
     exact this
   ·rw [hP1 hu] at hMo
    subst hMo
    exact ⟨hD.sane, fun y _ => .inl (Nat.le_refl _)⟩
   ·rcases hD.ep y hy with q | ⟨q0, q2, q3⟩
    ·exact .inl q
    ·exact .inr ⟨rfl, file_of hp q0, q2, q3⟩
   ·rcases hD.ob y hy with q | ⟨q0, q2, q3⟩
    ·exact .inl q
    ·exact .inr ⟨rfl, file_of hp q0, q2, q3⟩
   ·left
    unfold Did at q1
    rw [if_neg (by omega), if_pos hc] at q1
    obtain ⟨hd1, he1, _⟩ := q1
    subst hd1
    subst he1
    replace he : rdE σ p = 0 := he
    refine ⟨read_tells hk hp he, ?_⟩
    show strOf (rdD σ p) = _
    unfold rdD
    rw [if_pos he]
    rfl
  ·refine ⟨hrow e, ?_⟩
   rw [e]
   cases ok with
   | false => exact Saw.still (.inl rfl)
   | true =>
    refine Saw.still (.inr ⟨rfl, ?_⟩)
    have hfr : ((p.frm.toNat : Nat) : Int) = p.frm := by have := ht.1.2.2.1.1; omega
    have hj' : judgeL (σ.seat p.frm.toNat) p.life p.seq = 2 := hj
    unfold judgeL at hj'
    split at hj'
    ·cases hj'
    rename_i g1
    split at hj'
    ·split at hj' <;> cases hj'
    rename_i g2
    split at hj'
    ·rename_i g3
     refine hag _ (fun hn => ?_) hfr (by omega) g3.symm
     rw [hn] at g1 g2
     have e0 : noSeat.life = 0 := rfl
     rw [e0] at g1 g2
     omega
    ·split at hj'
     ·cases hj'
     ·split at hj' <;> cases hj'
  ·refine ⟨hrow e, ?_⟩
   rw [e]
   exact Saw.still (.inl ho)
 ·subst ho
  subst hσ'
  subst hP'
  refine ⟨⟨h.num, h.me, h.boot, by have := h.few; omega, h.sane, seats_mono h.seats, fun Mo hMo => ?_⟩, fun _ _ => .inl rfl, fun _ _ => .inl rfl, fun ho => by cases ho⟩
  rcases hMo with rfl | ⟨σ2, q1, rfl⟩
  ·exact ⟨h.sane, fun y _ => .inl (Nat.le_refl _)⟩
  ·have hD := did_done hk hp ht.2.2.2 h.sane q1
   refine ⟨hD.sane, fun y hy => ?_⟩
   rcases hD.ep y hy with q | ⟨_, _, q | q⟩
   ·exact .inl (Nat.le_of_eq q.symm)
   ·exact .inl (Nat.le_of_lt q.2.2.2)
   ·exact .inr q.2
theorem Ring.anew {Mo M' : List Rw} (h : Ring l k σ P bt) (hMo : P Mo) (hG : Good 99 M') (hM : ∀ k, getR M' k = afterK (boCh (bt + 1)) Mo k) :
  Ring l (k + 1) (srv0 99 1 ((bt : Int) + 1) M') (fun M => M = M') (bt + 1) ∧ ∀ y, y < 4294967296 → epN σ.M y ≤ epN M' y ∨ epN M' y = 0 := by
 obtain ⟨h1, h2⟩ := h.rows Mo hMo
 have hs := h1.boots hG hM
 obtain ⟨_, _, _, b4⟩ := boot_ok h1.snd hG hM
 refine ⟨⟨rfl, rfl, by show (bt : Int) + 1 = ((bt + 1 : Nat) : Int); omega, by have := h.few; omega, hs, fun _ => .inl rfl, fun Mo hMo => ?_⟩, fun y hy => ?_⟩
 ·subst hMo
  exact ⟨hs, fun y _ => .inl (Nat.le_refl _)⟩
 ·rw [ep_of (b4 (eK y) (eK_ne_bK y))]
  exact h2 y hy
theorem Ring.beginsOn (h : Ring l k σ P bt) (hb : bt < 4294967290) (Mo : List Rw) (hMo : P Mo) (hG : Good 99 Mo) : soundB Mo = true ∧ bootN Mo = bt ∧ ∀ e M', Puts 99 Mo (boCh (bt + 1)) e M' → e = 0 ∧ Good 99 M' ∧ ∀ k, getR M' k = afterK (boCh (bt + 1)) Mo k := by
 obtain ⟨h1, _⟩ := h.rows Mo hMo
 exact ⟨h1.sound hG, h1.bootN (by omega), fun e M' hp => boot_room hG (by rw [h1.boot]; rfl) hp⟩
theorem ring_new {M' : List Rw} (hG : Good 99 M') (hM : ∀ k, getR M' k = afterK (boCh (0 + 1)) [] k) : Ring l 0 (srv0 99 1 ((0 : Nat) + 1 : Int) M') (fun M => M = M') 1 := by
 have hs := sane_new hG hM
 refine ⟨rfl, rfl, rfl, Nat.le_refl _, hs, fun _ => .inl rfl, fun Mo hMo => ?_⟩
 subst hMo
 exact ⟨hs, fun y _ => .inl (Nat.le_refl _)⟩
end
end Go.Proofs.YtmelaiefbpdifaaGreatDoor.Srv
