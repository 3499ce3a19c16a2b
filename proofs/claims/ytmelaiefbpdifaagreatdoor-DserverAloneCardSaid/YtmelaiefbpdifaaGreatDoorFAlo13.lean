/- A server to which requests of file after file are sent, each new. -/
import Derived.Test.YtmelaiefbpdifaaGreatDoorFPot13
namespace Go.Proofs.YtmelaiefbpdifaaGreatDoor.Srv
open Go.RowKit Go.Maps
open Pgs (Pg keyB headB)
def sendP (p : Pk) (n : Nat) : Pk := { p with dst := 1, life := 1, seq := (n : Int), asked := 1 }
def Cnt (σ : Sv) (f : Nat → Nat) : Prop := ∀ k, (f k = 0 ∧ σ.seat k = noSeat) ∨ (0 < f k ∧ (σ.seat k).life = 1 ∧ (σ.seat k).seq = (f k : Int))
structure One (σ : Sv) (f : Nat → Nat) (i : Nat) : Prop where
 num : σ.N = 459
 me : σ.me = 1
 boot : σ.boot = 1
 snd : Snd σ.M
 cnt : Cnt σ f
 keys : ∃ T, Keys T σ ∧ T.length ≤ 1 + 5 * i
section
variable {σ σ' : Sv} {p r : Pk} {ok : Bool} {f : Nat → Nat} {i c n : Nat}
theorem send_right (h : p.Right) (n : Nat) : (sendP p n).Right := by
 obtain ⟨h1, h2, h3, _, h5, h6, h7, h8⟩ := h
 exact ⟨h1, h2, h3, ⟨show (0 : Int) ≤ 1 by decide, show (1 : Int) ≤ 255 by decide⟩, h5, h6, h7, h8⟩
theorem One.roomy (h : One σ f i) (hk : σ.Ok c) (hi : i ≤ 50) : Roomy σ := by
 obtain ⟨T, h1, h2⟩ := h.keys
 exact roomy_of hk h1 (by omega) h.num
theorem One.judge (h : One σ f i) (hn : n = f p.frm.toNat + 1) : judgeP σ (sendP p n) = 1 := by
 show judgeL (σ.seat p.frm.toNat) 1 (n : Int) = 1
 rcases h.cnt p.frm.toNat with ⟨h1, h2⟩ | ⟨h1, h2, h3⟩
 ·rw [h2, hn, h1]
  exact j11
 ·unfold judgeL
  rw [h2, h3]
  have e1 : ¬ ((1 : Int) < 1 ∨ (1 : Int) = 0 ∨ (n : Int) = 0) := by omega
  rw [if_neg e1, if_neg (by decide), if_neg (by omega), if_pos (by omega)]
theorem One.step (h : One σ f i) (hk : σ.Ok c) (hi : i ≤ 50) (hu : σ.up = true) (hp : p.Ok) (hR : p.Right) (h1 : p.kind = 1) (h5 : 1 ≤ p.code ∧ p.code ≤ 5) (hn : n = f p.frm.toNat + 1) (hd : Handled (Puts σ.N) σ (sendP p n) r ok σ') :
  ∃ d e σ1, Did (Puts σ.N) σ p d e σ1 ∧ r = replyP σ (sendP p n) d e ∧ ok = true ∧ (∀ x, At x σ' σ1) ∧ One σ' (fun k => if k = p.frm.toNat then n else f k) (i + 1) := by
 have ht : takes σ (sendP p n) := ⟨send_right hR n, h1, h.me.symm, h5⟩
 have hj := h.judge (p := p) hn
 obtain ⟨d, e, σ1, q1, q2, q3, q4⟩ := exec_live (handled_new hd hu ht h.boot.symm hj)
 replace q1 : Did (Puts σ.N) σ p d e σ1 := q1
 obtain ⟨a1, a2, a3, _, a5⟩ := did_same q1
 obtain ⟨T, t1, t2⟩ := h.keys
 obtain ⟨T', k1, k2, k3⟩ := did_keys t1 (h.roomy hk hi) h.snd hk hp hR.1.2 q1
 refine ⟨d, e, σ1, q1, q2, q3, fun x => by rw [q4]; exact at_setSeat x _ _ _, ?_⟩
 rw [q4]
 refine ⟨a1.trans h.num, a2.trans h.me, a3.trans h.boot, k2, fun k => ?_, T', ⟨k1.rows, k1.loose⟩, by omega⟩
 show ((if k = p.frm.toNat then n else f k) = 0 ∧ (if k = p.frm.toNat then doneL (σ.seat p.frm.toNat) 1 (n : Int) _ else σ1.seat k) = noSeat) ∨ (0 < (if k = p.frm.toNat then n else f k) ∧ (if k = p.frm.toNat then doneL (σ.seat p.frm.toNat) 1 (n : Int) _ else σ1.seat k).life = 1 ∧ (if k = p.frm.toNat then doneL (σ.seat p.frm.toNat) 1 (n : Int) _ else σ1.seat k).seq = ((if k = p.frm.toNat then n else f k : Nat) : Int))
 by_cases hkk : k = p.frm.toNat
 ·simp only [if_pos hkk]
  refine .inr ⟨by omega, ?_⟩
  unfold doneL
  rw [if_pos (show judgeL (σ.seat p.frm.toNat) 1 (n : Int) = 1 from hj)]
  exact ⟨rfl, rfl⟩
 ·simp only [if_neg hkk]
  rw [a5]
  exact h.cnt k
theorem one_new {M : List Rw} (hG : Good 459 M) (hM : ∀ k, getR M k = afterK (boCh 1) [] k) : One (srv0 459 1 1 M) (fun _ => 0) 0 := by
 obtain ⟨_, b2, _, b4⟩ := boot_ok snd_nil hG hM
 refine ⟨rfl, rfl, rfl, b2, fun k => .inl ⟨rfl, rfl⟩, [bK], ⟨fun k v hk => ?_, fun q hq => by cases hq⟩, by decide⟩
 by_cases hb : k = bK
 ·rw [hb]; exact List.mem_singleton.2 rfl
 ·have : getR M k = some v := hk
  rw [b4 k hb] at this
  cases this
end
end Go.Proofs.YtmelaiefbpdifaaGreatDoor.Srv
