/- One file, whatever is asked of others. -/
import Derived.Test.YtmelaiefbpdifaaGreatDoorFLike13
namespace Go.Proofs.YtmelaiefbpdifaaGreatDoor.Srv
open Go.RowKit Go.Maps
open Pgs (Pg keyB headB ldL chgL)
structure At (x : Nat) (σ τ : Sv) : Prop where
 ep : getR σ.M (eK x) = getR τ.M (eK x)
 sure : sureL σ.M x = sureL τ.M x
 obj : objL σ x = objL τ x
structure Roomy (σ : Sv) : Prop where
 rows : σ.M.length + 33 ≤ σ.N
 room : 32 ≤ roomI σ
section
variable {σ τ σ' τ' : Sv} {p r r' : Pk} {d d' : List UInt8} {e e' : Int} {ok ok' : Bool} {x c c' : Nat}
theorem At.refl (x : Nat) (σ : Sv) : At x σ σ := ⟨rfl, rfl, rfl⟩
theorem At.trans {υ : Sv} (h : At x σ τ) (g : At x τ υ) : At x σ υ := ⟨h.ep.trans g.ep, h.sure.trans g.sure, h.obj.trans g.obj⟩
theorem At.symm (h : At x σ τ) : At x τ σ := ⟨h.ep.symm, h.sure.symm, h.obj.symm⟩
theorem At.epN (h : At x σ τ) : epN σ.M x = epN τ.M x := by unfold Srv.epN; rw [h.ep]
theorem At.cur (h : At x σ τ) (n : Int) : cur σ.M x n = cur τ.M x n := by unfold Srv.cur epB; rw [h.epN, h.ep]
theorem at_setSeat (x : Nat) (σ : Sv) (k : Nat) (s : Sat) : At x (setSeat σ k s) σ := ⟨rfl, rfl, rfl⟩
theorem roomy_wr (h : Roomy σ) (p : Pk) : wrE σ p = if Srv.cur σ.M p.file.toNat p.epoch = false then 17 else if 1024 < p.off + (p.data.size : Int) then 15 else 0 := by
 unfold wrE
 have h1 : ¬ (0 < moreI σ p ∧ roomI σ < moreI σ p) := by
  have := fresh_le σ.M p.file.toNat (nowO σ p)
  have := Pgs.right_len (show Pgs.right (nowO σ p) = true from Pgs.putL_right _ _ _)
  have := h.room
  unfold moreI
  omega
 rw [if_neg h1]
theorem settled_roomy (h : Roomy σ) (hS : Snd σ.M) (hx : x < 4294967296) {o : List Pg} {ch : List Ch} (ho : Pgs.right o = true) (hc : ChOk x ch) (h1 : Settled (Puts σ.N) σ x o ch e σ') :
  e = 0 ∧ SetOk σ.M σ'.M x o ch ∧ σ'.L = delLo σ.L x ∧ Good σ'.N σ'.M := by
 obtain ⟨M', hp, rfl⟩ := h1
 rcases set_puts ho hc hp with ⟨_, _, hf⟩ | ⟨rfl, hG, hM⟩
 ·exfalso; have := h.rows; omega
 ·exact ⟨rfl, set_ok hS hx ho hc hG hM, by rw [if_pos rfl], hG⟩
theorem obj_del {y : Nat} (h : σ'.L = delLo σ.L x) (hy : y ≠ x) (hs : sureL σ'.M y = sureL σ.M y) : objL σ' y = objL σ y := by
 unfold objL
 rw [h, look_del_other hy, hs]
theorem obj_del_same (h : σ'.L = delLo σ.L x) : objL σ' x = sureL σ'.M x := by
 unfold objL
 rw [h, look_del_same]
 rfl
theorem settled_other (h : Roomy σ) (hS : Snd σ.M) {y : Nat} (hy : y < 4294967296) (hx : x < 4294967296) (hne : x ≠ y) {o : List Pg} {ch : List Ch} (ho : Pgs.right o = true) (hc : ChOk y ch) (h1 : Settled (Puts σ.N) σ y o ch e σ') : At x σ' σ := by
 obtain ⟨rfl, hs, hl, _⟩ := settled_roomy h hS hy ho hc h1
 refine ⟨hs.rest _ (fun e => hne (eK_inj hx hy e)) (fun n _ e => keyB_ne_eK y n x e.symm), hs.other x hx hne, obj_del hl hne (hs.other x hx hne)⟩
theorem settled_both (h : Roomy σ) (g : Roomy τ) (hS : Snd σ.M) (gS : Snd τ.M) (hx : x < 4294967296) (ha : At x σ τ) {o : List Pg} {ch : List Ch} (ho : Pgs.right o = true) (hc : ChOk x ch)
  (h1 : Settled (Puts σ.N) σ x o ch e σ') (h2 : Settled (Puts τ.N) τ x o ch e' τ') : e = e' ∧ At x σ' τ' := by
 obtain ⟨rfl, hs, hl, _⟩ := settled_roomy h hS hx ho hc h1
 obtain ⟨rfl, gs, gl, _⟩ := settled_roomy g gS hx ho hc h2
 have e1 : sureL σ'.M x = sureL τ'.M x := hs.it.trans gs.it.symm
 refine ⟨rfl, ?_, e1, by rw [obj_del_same hl, obj_del_same gl, e1]⟩
 rw [hs.ep, gs.ep]
 unfold afterK
 rw [ha.ep]
theorem file_lt (hp : U p.file) : p.file.toNat < 4294967296 := by obtain ⟨h1, h2⟩ := hp; omega
theorem did_at (h : Roomy σ) (g : Roomy τ) (hS : Snd σ.M) (gS : Snd τ.M) (hk : σ.Ok c) (hp : U p.file) (ha : At p.file.toNat σ τ) (h1 : Did (Puts σ.N) σ p d e σ') (h2 : Did (Puts τ.N) τ p d' e' τ') : d = d' ∧ e = e' ∧ At p.file.toNat σ' τ' := by
 have hx := file_lt hp
 have hwas : wasO τ p = wasO σ p := ha.obj.symm
 have hnow : nowO τ p = nowO σ p := by unfold nowO; rw [hwas]
 have hcur := ha.cur p.epoch
 have hep := ha.epN
 unfold Did at h1 h2
 by_cases c1 : p.code = 1
 ·rw [if_pos c1] at h1 h2
  obtain ⟨rfl, rfl, rfl⟩ := h1
  obtain ⟨rfl, rfl, rfl⟩ := h2
  have hw : wrE σ p = wrE τ p := by rw [roomy_wr h, roomy_wr g, hcur]
  refine ⟨rfl, hw, ?_⟩
  unfold wrS
  rw [hw]
  split
  ·refine ⟨ha.ep, ha.sure, ?_⟩
   unfold objL
   rw [look_put_same, look_put_same, hnow]
   rfl
  ·exact ha
 rw [if_neg c1] at h1 h2
 by_cases c2 : p.code = 2
 ·rw [if_pos c2] at h1 h2
  have hr : rdE σ p = rdE τ p := by unfold rdE; rw [hcur]
  have hd : rdD σ p = rdD τ p := by unfold rdD; rw [hr, hwas]
  obtain ⟨rfl, rfl, rfl⟩ := h1
  obtain ⟨rfl, rfl, rfl⟩ := h2
  exact ⟨hd, hr, ha⟩
 rw [if_neg c2] at h1 h2
 by_cases c3 : p.code = 3
 ·rw [if_pos c3] at h1 h2
  obtain ⟨rfl, h1⟩ := h1
  obtain ⟨rfl, h2⟩ := h2
  rw [hcur] at h1
  rw [hwas] at h2
  by_cases q : Srv.cur τ.M p.file.toNat p.epoch = false
  ·rw [if_pos q] at h1 h2
   obtain ⟨rfl, rfl⟩ := h1
   obtain ⟨rfl, rfl⟩ := h2
   exact ⟨rfl, rfl, ha⟩
  ·rw [if_neg q] at h1 h2
   exact ⟨rfl, settled_both h g hS gS hx ha (obj_right hk _) (ChOk.nil _) h1 h2⟩
 rw [if_neg c3] at h1 h2
 by_cases c4 : p.code = 4
 ·rw [if_pos c4] at h1 h2
  obtain ⟨rfl, h1⟩ := h1
  obtain ⟨rfl, h2⟩ := h2
  rw [hep] at h1
  rw [hwas] at h2
  by_cases q1 : p.frm ≠ 0
  ·rw [if_pos q1] at h1 h2
   obtain ⟨rfl, rfl⟩ := h1
   obtain ⟨rfl, rfl⟩ := h2
   exact ⟨rfl, rfl, ha⟩
  rw [if_neg q1] at h1 h2
  by_cases q2 : p.epoch < (Srv.epN τ.M p.file.toNat : Int) ∨ p.epoch = 0
  ·rw [if_pos q2] at h1 h2
   obtain ⟨rfl, rfl⟩ := h1
   obtain ⟨rfl, rfl⟩ := h2
   exact ⟨rfl, rfl, ha⟩
  rw [if_neg q2] at h1 h2
  by_cases q3 : (Srv.epN τ.M p.file.toNat : Int) = p.epoch
  ·rw [if_pos q3] at h1 h2
   obtain ⟨rfl, rfl⟩ := h1
   obtain ⟨rfl, rfl⟩ := h2
   exact ⟨rfl, rfl, ha⟩
  rw [if_neg q3] at h1 h2
  exact ⟨rfl, settled_both h g hS gS hx ha (Pgs.cutL_right _ _) (ChOk.fe p) h1 h2⟩
 ·rw [if_neg c4] at h1 h2
  obtain ⟨rfl, h1⟩ := h1
  obtain ⟨rfl, h2⟩ := h2
  by_cases q1 : p.frm ≠ 0
  ·rw [if_pos q1] at h1 h2
   obtain ⟨rfl, rfl⟩ := h1
   obtain ⟨rfl, rfl⟩ := h2
   exact ⟨rfl, rfl, ha⟩
  rw [if_neg q1] at h1 h2
  exact ⟨rfl, settled_both h g hS gS hx ha rfl (ChOk.fr p) h1 h2⟩
theorem did_other (h : Roomy σ) (hS : Snd σ.M) (hk : σ.Ok c) (hp : U p.file) (hx : x < 4294967296) (hne : x ≠ p.file.toNat) (h1 : Did (Puts σ.N) σ p d e σ') : At x σ' σ := by
 have hy := file_lt hp
 unfold Did at h1
 split at h1
 ·obtain ⟨_, _, rfl⟩ := h1
  unfold wrS
  split
  ·refine ⟨rfl, rfl, ?_⟩
   unfold objL
   rw [look_put_other hne]
  ·exact At.refl x σ
 split at h1
 ·obtain ⟨_, _, rfl⟩ := h1
  exact At.refl x _
 split at h1
 ·obtain ⟨_, h1⟩ := h1
  split at h1
  ·rw [h1.2]; exact At.refl x σ
  ·exact settled_other h hS hy hx hne (obj_right hk _) (ChOk.nil _) h1
 split at h1
 ·obtain ⟨_, h1⟩ := h1
  split at h1
  ·rw [h1.2]; exact At.refl x σ
  split at h1
  ·rw [h1.2]; exact At.refl x σ
  split at h1
  ·rw [h1.2]; exact At.refl x σ
  exact settled_other h hS hy hx hne (Pgs.cutL_right _ _) (ChOk.fe p) h1
 ·obtain ⟨_, h1⟩ := h1
  split at h1
  ·rw [h1.2]; exact At.refl x σ
  exact settled_other h hS hy hx hne rfl (ChOk.fr p) h1
end
end Go.Proofs.YtmelaiefbpdifaaGreatDoor.Srv
