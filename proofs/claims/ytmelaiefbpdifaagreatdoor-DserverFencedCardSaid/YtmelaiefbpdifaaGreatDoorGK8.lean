/- Joined: Sn13, Qu13 -/
import Derived.Test.YtmelaiefbpdifaaGreatDoorGK7
import Derived.Test.YtmelaiefbpdifaaGreatDoorGK0
namespace Go.Proofs.YtmelaiefbpdifaaGreatDoor.Srv
open Go.RowKit Go.Maps
open Pgs (Pg keyB headB ldL ldOk chgL Holds pre_iff)
structure Sane (M : List Rw) (b : Nat) : Prop where
 boot : getR M bK = some (be4 b)
 keys : ∀ k v, getR M k = some v → k = bK ∨ (∃ x, x < 4294967296 ∧ k = eK x ∧ v.length = 4) ∨ (∃ x n, x < 4294967296 ∧ n < 32 ∧ k = keyB x n)
 snd : Snd M
theorem mem_get {M : List Rw} (hS : Sorted M) {r : Rw} (hr : r ∈ M) : getR M r.key = some r.val := by
 rw [getR, findR_of hS hr]
 rfl
theorem pre_one {a c : UInt8} {k : List UInt8} (h : preK [a] (c :: k) = true) : c = a := by
 have := (pre_iff.1 h).2
 injection this
theorem ofNat_mod (a : Nat) : UInt8.ofNat (a % 256) = UInt8.ofNat a := UInt8.toNat_inj.1 (by simp)
theorem b4_be4 (x : Nat) : Pgs.b4 x = be4 x := by
 unfold Pgs.b4 be4
 simp only [ofNat_mod]
section
variable {M M' : List Rw} {b N x : Nat}
theorem Sane.sound (h : Sane M b) (hG : Good N M) : soundB M = true := by
 unfold soundB
 rw [Bool.and_eq_true, Bool.and_eq_true]
 refine ⟨?_, ?_, ?_⟩
 ·rw [(get_val M bK).1, h.boot]
  simp [be4_length]
 ·rw [List.all_eq_true]
  intro c hc
  obtain ⟨r, hr, rfl⟩ := List.mem_map.1 hc
  obtain ⟨hrM, hp⟩ := List.mem_filter.1 hr
  rcases h.keys r.key r.val (mem_get hG.sorted hrM) with e | ⟨x, _, e, hl⟩ | ⟨x, n, _, _, e⟩
  ·rw [e] at hp
   exact absurd (pre_one hp) (by decide)
  ·show (decide (r.key.length = 5) && decide (r.val.length = 4)) = true
   rw [e, eK_length, hl]
   rfl
  ·rw [e] at hp
   exact absurd (pre_one (k := Pgs.b4 x ++ [0, UInt8.ofNat n]) hp) (by decide)
 ·unfold loadB
  rw [List.all_eq_true]
  intro c hc
  obtain ⟨r, hr, rfl⟩ := List.mem_map.1 hc
  obtain ⟨hrM, hp⟩ := List.mem_filter.1 hr
  rcases h.keys r.key r.val (mem_get hG.sorted hrM) with e | ⟨x, _, e, _⟩ | ⟨x, n, hx, _, e⟩
  ·rw [e] at hp
   exact absurd (pre_one hp) (by decide)
  ·rw [e] at hp
   exact absurd (pre_one (k := be4 x) hp) (by decide)
  ·show (decide (5 ≤ r.key.length) && ldOk (underL M (headB (fileOf r.key)))) = true
   have hf : fileOf (keyB x n) = x := by
    unfold fileOf
    rw [Pgs.keyB_take]
    show numOf (Pgs.b4 x) = x
    rw [b4_be4]
    exact numOf_be4 x hx
   rw [e, hf, Pgs.keyB_length, ((h.snd x hx).load hG (sure_right M x)).1]
   rfl
def ChSane (x : Nat) (ch : List Ch) : Prop := ch = [] ∨ (∃ v, v.length = 4 ∧ ch = [⟨eK x, v, false⟩]) ∨ ch = [⟨eK x, [], true⟩]
theorem after_one (M : List Rw) (x : Nat) (v : List UInt8) (g : Bool) : afterK [⟨eK x, v, g⟩] M (eK x) = if g then none else some v := by
 unfold afterK hitL
 simp
theorem Sane.set {o : List Pg} {ch : List Ch} (h : Sane M b) (hx : x < 4294967296) (hs : SetOk M M' x o ch) (hch : ChSane x ch) : Sane M' b := by
 refine ⟨(hs.rest bK (fun e => eK_ne_bK x e.symm) (fun n _ e => keyB_ne_bK x n e.symm)).trans h.boot, fun k v hk => ?_, hs.snd⟩
 by_cases h1 : k = eK x
 ·rw [h1, hs.ep] at hk
  rcases hch with rfl | ⟨u, hu, rfl⟩ | rfl
  ·rw [h1]
   exact h.keys _ _ hk
  ·rw [after_one, if_neg (by decide)] at hk
   injection hk with hk
   exact .inr (.inl ⟨x, hx, h1, by rw [← hk]; exact hu⟩)
  ·rw [after_one, if_pos rfl] at hk
   cases hk
 ·by_cases h2 : ∃ n, n < 32 ∧ k = keyB x n
  ·obtain ⟨n, hn, h2⟩ := h2
   exact .inr (.inr ⟨x, n, hx, hn, h2⟩)
  ·rw [hs.rest k h1 (fun n hn e => h2 ⟨n, hn, e⟩)] at hk
   exact h.keys k v hk
theorem Sane.boots (h : Sane M b) (hM' : Good N M') {c : Nat} (hk : ∀ k, getR M' k = afterK (boCh c) M k) : Sane M' c := by
 obtain ⟨_, b2, b3, b4⟩ := boot_ok h.snd hM' hk
 refine ⟨b3, fun k v hv => ?_, b2⟩
 by_cases hb : k = bK
 ·exact .inl hb
 ·rw [b4 k hb] at hv
  exact h.keys k v hv
theorem sane_new (hM' : Good N M') {c : Nat} (hk : ∀ k, getR M' k = afterK (boCh c) [] k) : Sane M' c := by
 obtain ⟨_, b2, b3, b4⟩ := boot_ok snd_nil hM' hk
 refine ⟨b3, fun k v hv => ?_, b2⟩
 by_cases hb : k = bK
 ·exact .inl hb
 ·have : getR M' k = none := b4 k hb
  rw [this] at hv
  cases hv
theorem Sane.bootN (h : Sane M b) (hb : b < 4294967296) : bootN M = b := by
 unfold Srv.bootN
 rw [(get_val M bK).1, h.boot]
 exact numOf_be4 b hb
theorem boot_room {e : Int} {c : Nat} (hM : Good N M) (hb : (getR M bK).isSome = true) (h : Puts N M (boCh c) e M') : e = 0 ∧ Good N M' ∧ ∀ k, getR M' k = afterK (boCh c) M k := by
 rcases h with ⟨h, _⟩ | ⟨_, h, rfl, _⟩ | ⟨_, _, h1, h2, h3⟩
 ·exact absurd (boot_fit c) h
 ·exfalso
  have hl := hM.length
  have hg : growthL M (newsL M (boCh c)) ≤ 0 := by
   have hs : (findR M bK).isSome = true := (get_val M bK).2.trans hb
   unfold newsL boCh
   rw [List.filter_cons]
   split
   ·show (if false = true then (-1 : Int) else if (findR M bK).isSome = true then 0 else 1) + 0 ≤ 0
    rw [if_neg (by decide), if_pos hs]
    exact Int.le_refl 0
   ·exact Int.le_refl 0
  omega
 ·exact ⟨h1, h2, h3⟩
end
section
variable {σ σ' : Sv} {p : Pk} {d : List UInt8} {e : Int} {c b : Nat}
theorem settled_set {x : Nat} {o : List Pg} {ch : List Ch} (hS : Snd σ.M) (hx : x < 4294967296) (ho : Pgs.right o = true) (hc : ChOk x ch) (h : Settled (Puts σ.N) σ x o ch e σ') :
  (e = 6 ∧ σ' = σ) ∨ (e = 0 ∧ SetOk σ.M σ'.M x o ch ∧ σ'.L = delLo σ.L x ∧ Good σ'.N σ'.M) := by
 obtain ⟨M', hp, rfl⟩ := h
 rcases set_puts ho hc hp with ⟨rfl, rfl, _⟩ | ⟨rfl, hG, hM⟩
 ·exact .inl ⟨rfl, rfl⟩
 ·exact .inr ⟨rfl, set_ok hS hx ho hc hG hM, by rw [if_pos rfl], hG⟩
structure Done (σ σ' : Sv) (p : Pk) (e : Int) (b : Nat) : Prop where
 sane : Sane σ'.M b
 ep : ∀ y, y < 4294967296 → epN σ'.M y = epN σ.M y ∨ (y = p.file.toNat ∧ e = 0 ∧ ((p.code = 4 ∧ p.frm = 0 ∧ p.epoch = (epN σ'.M y : Int) ∧ epN σ.M y < epN σ'.M y) ∨ (p.code = 5 ∧ epN σ'.M y = 0)))
 ob : ∀ y, y < 4294967296 → objL σ' y = objL σ y ∨ (y = p.file.toNat ∧ e = 0 ∧ (p.code = 4 ∨ p.code = 5 ∨ (p.code = 1 ∧ p.epoch = (epN σ.M y : Int))))
theorem Done.none (h : Sane σ.M b) : Done σ σ p e b := ⟨h, fun _ _ => .inl rfl, fun _ _ => .inl rfl⟩
theorem cur_ep {M : List Rw} {x : Nat} {n : Int} (h : cur M x n ≠ false) : n = (epN M x : Int) := by
 unfold cur at h
 cases hb : epB M x <;> rw [hb] at h
 ·simp at h
 ·simp at h
  omega
theorem ep_of {M M' : List Rw} {y : Nat} (h : getR M' (eK y) = getR M (eK y)) : epN M' y = epN M y := by unfold epN; rw [h]
theorem did_done (hk : σ.Ok c) (hp : p.Ok) (hc : 1 ≤ p.code ∧ p.code ≤ 5) (h : Sane σ.M b) (h1 : Did (Puts σ.N) σ p d e σ') : Done σ σ' p e b := by
 have hx := file_lt hp.file
 have hset : ∀ o ch, Pgs.right o = true → ChOk p.file.toNat ch → ChSane p.file.toNat ch → Settled (Puts σ.N) σ p.file.toNat o ch e σ' → (∀ M', SetOk σ.M M' p.file.toNat o ch → e = 0 → (epN M' p.file.toNat = epN σ.M p.file.toNat ∨ ((p.code = 4 ∧ p.frm = 0 ∧ p.epoch = (epN M' p.file.toNat : Int) ∧ epN σ.M p.file.toNat < epN M' p.file.toNat) ∨ (p.code = 5 ∧ epN M' p.file.toNat = 0))) ∧ (o = objL σ p.file.toNat ∨ p.code = 4 ∨ p.code = 5)) → Done σ σ' p e b := fun o ch ho hch hcs hs hf => by
  rcases settled_set h.snd hx ho hch hs with ⟨_, rfl⟩ | ⟨he, q1, q2, _⟩
  ·exact Done.none h
  ·obtain ⟨f1, f2⟩ := hf _ q1 he
   refine ⟨h.set hx q1 hcs, fun y hy => ?_, fun y hy => ?_⟩
   ·by_cases hyx : y = p.file.toNat
    ·rw [hyx]
     rcases f1 with f1 | f1
     ·exact .inl f1
     ·exact .inr ⟨rfl, he, f1⟩
    ·exact .inl (ep_of (q1.rest _ (fun e => hyx (eK_inj hy hx e)) (fun n _ e => keyB_ne_eK _ n y e.symm)))
   ·by_cases hyx : y = p.file.toNat
    ·rw [hyx, obj_del_same q2, q1.it]
     rcases f2 with f2 | f2 | f2
     ·exact .inl f2
     ·exact .inr ⟨rfl, he, .inl f2⟩
     ·exact .inr ⟨rfl, he, .inr (.inl f2)⟩
    ·exact .inl (obj_del q2 hyx (q1.other y hy hyx))
 unfold Did at h1
 by_cases c1 : p.code = 1
 ·rw [if_pos c1] at h1
  obtain ⟨_, rfl, rfl⟩ := h1
  unfold wrS
  split
  ·rename_i hw
   refine ⟨h, fun _ _ => .inl rfl, fun y hy => ?_⟩
   by_cases hyx : y = p.file.toNat
   ·refine .inr ⟨hyx, hw, .inr (.inr ⟨c1, ?_⟩)⟩
    rw [hyx]
    refine cur_ep (fun hcu => ?_)
    unfold wrE at hw
    rw [if_pos hcu] at hw
    exact absurd hw (by decide)
   ·left
    unfold objL
    rw [look_put_other hyx]
  ·exact Done.none h
 rw [if_neg c1] at h1
 by_cases c2 : p.code = 2
 ·rw [if_pos c2] at h1
  obtain ⟨_, _, rfl⟩ := h1
  exact Done.none h
 rw [if_neg c2] at h1
 by_cases c3 : p.code = 3
 ·rw [if_pos c3] at h1
  obtain ⟨_, h1⟩ := h1
  split at h1
  ·rw [h1.2]; exact Done.none h
  ·exact hset _ _ (obj_right hk _) (ChOk.nil _) (.inl rfl) h1 fun M' hs _ => ⟨.inl (ep_of hs.ep), .inl rfl⟩
 rw [if_neg c3] at h1
 by_cases c4 : p.code = 4
 ·rw [if_pos c4] at h1
  obtain ⟨_, h1⟩ := h1
  split at h1
  ·rw [h1.2]; exact Done.none h
  rename_i q1
  split at h1
  ·rw [h1.2]; exact Done.none h
  rename_i q2
  split at h1
  ·rw [h1.2]; exact Done.none h
  rename_i q3
  obtain ⟨e1, e2⟩ := hp.epoch
  refine hset _ _ (Pgs.cutL_right _ _) (ChOk.fe p) (.inr (.inl ⟨_, be4_length _, rfl⟩)) h1 fun M' hs _ => ⟨.inr (.inl ⟨c4, by simpa using q1, ?_⟩), .inr (.inl c4)⟩
  have he : epN M' p.file.toNat = p.epoch.toNat := by
   have hv := hs.ep
   unfold feCh at hv
   rw [after_one, if_neg (by decide)] at hv
   unfold epN
   rw [hv]
   exact numOf_be4 _ (by omega)
  rw [he]
  omega
 ·rw [if_neg c4] at h1
  obtain ⟨_, h1⟩ := h1
  split at h1
  ·rw [h1.2]; exact Done.none h
  have c5 : p.code = 5 := by omega
  refine hset _ _ rfl (ChOk.fr p) (.inr (.inr rfl)) h1 fun M' hs _ => ⟨.inr (.inr ⟨c5, ?_⟩), .inr (.inr c5)⟩
  have hv := hs.ep
  unfold frCh at hv
  rw [after_one, if_pos rfl] at hv
  unfold epN
  rw [hv]
  rfl
end
end Go.Proofs.YtmelaiefbpdifaaGreatDoor.Srv
namespace Go.Proofs.YtmelaiefbpdifaaGreatDoor.Srv
open Go.RowKit Go.Maps
open Pgs (Pg pgE)
theorem did_noC {σ σ' : Sv} {p : Pk} {d : List UInt8} {e : Int} (h : Did NoC σ p d e σ') : σ'.M = σ.M := by
 have hs : ∀ x o ch, Settled NoC σ x o ch e σ' → σ'.M = σ.M := fun x o ch h => by
  obtain ⟨_, h, _⟩ := h
  exact h.elim
 unfold Did at h
 split at h
 ·obtain ⟨_, _, rfl⟩ := h
  unfold wrS
  split <;> rfl
 split at h
 ·obtain ⟨_, _, rfl⟩ := h
  rfl
 split at h
 ·obtain ⟨_, h⟩ := h
  split at h
  ·rw [h.2]
  ·exact hs _ _ _ h
 split at h
 ·obtain ⟨_, h⟩ := h
  split at h
  ·rw [h.2]
  split at h
  ·rw [h.2]
  split at h
  ·rw [h.2]
  exact hs _ _ _ h
 ·obtain ⟨_, h⟩ := h
  split at h
  ·rw [h.2]
  exact hs _ _ _ h
theorem handled_noC {σ σ' : Sv} {p r : Pk} {ok : Bool} (h : Handled NoC σ p r ok σ') : σ'.M = σ.M := by
 rcases h with ⟨_, _, _, rfl⟩ | ⟨_, _, _, _, rfl⟩ | ⟨_, _, _, d, e, σ1, h1, h2⟩ | ⟨_, _, _, _, _, rfl⟩ | ⟨_, _, _, _, _, rfl⟩
 ·rfl
 ·rfl
 ·have := did_noC h1
  rcases h2 with ⟨_, _, _, rfl⟩ | ⟨_, _, _, rfl⟩ <;> exact this
 ·rfl
 ·rfl
theorem handled_died {C : Com} {σ σ' : Sv} {p r : Pk} {ok : Bool} (h : Handled C σ p r ok σ') (hu : σ.up = true) (hd : σ'.up = false) :
  takes σ p ∧ p.asked = σ.boot ∧ judgeP σ p = 1 ∧ r = zPk ∧ ok = false ∧ ∃ d σ1, Did C σ p d 5 σ1 ∧ σ' = { σ1 with up := false } := by
 rcases h with ⟨_, _, _, rfl⟩ | ⟨_, _, _, _, rfl⟩ | ⟨⟨_, ht⟩, ha, hj, d, e, σ1, h1, h2⟩ | ⟨_, _, _, _, _, rfl⟩ | ⟨_, _, _, _, _, rfl⟩
 ·rw [hu] at hd; cases hd
 ·rw [hu] at hd; cases hd
 ·obtain ⟨_, _, _, a4, _⟩ := did_same h1
  rcases h2 with ⟨rfl, rfl, rfl, rfl⟩ | ⟨_, _, _, rfl⟩
  ·exact ⟨ht, ha, hj, rfl, rfl, d, σ1, h1, rfl⟩
  ·replace hd : σ1.up = false := hd
   rw [a4, hu] at hd
   cases hd
 ·rw [hu] at hd; cases hd
 ·rw [hu] at hd; cases hd
theorem did_five {C : Com} {σ σ1 : Sv} {p : Pk} {d : List UInt8} (h : Did C σ p d 5 σ1) :
  ∃ x o ch, Settled C σ x o ch 5 σ1 ∧ ∀ Mo, Puts σ.N σ.M (setCh σ.M x o ch) 0 Mo → ∃ σ2, Did (Puts σ.N) σ p [] 0 σ2 ∧ σ2.M = Mo := by
 have hset : ∀ x o ch Mo, Puts σ.N σ.M (setCh σ.M x o ch) 0 Mo → Settled (Puts σ.N) σ x o ch 0 { σ with M := Mo, L := delLo σ.L x } := fun x o ch Mo h => ⟨Mo, h, by rw [if_pos rfl]⟩
 unfold Did at h
 by_cases c1 : p.code = 1
 ·rw [if_pos c1] at h
  obtain ⟨_, h, _⟩ := h
  unfold wrE at h
  split at h
  ·cases h
  ·split at h
   ·cases h
   ·split at h <;> cases h
 rw [if_neg c1] at h
 by_cases c2 : p.code = 2
 ·rw [if_pos c2] at h
  obtain ⟨_, h, _⟩ := h
  unfold rdE at h
  split at h
  ·cases h
  ·split at h <;> cases h
 rw [if_neg c2] at h
 by_cases c3 : p.code = 3
 ·rw [if_pos c3] at h
  obtain ⟨_, h⟩ := h
  split at h
  ·cases h.1
  ·rename_i q
   refine ⟨_, _, _, h, fun Mo hp => ⟨{ σ with M := Mo, L := delLo σ.L p.file.toNat }, ?_, rfl⟩⟩
   unfold Did
   rw [if_neg c1, if_neg c2, if_pos c3, if_neg q]
   exact ⟨rfl, hset _ _ _ _ hp⟩
 rw [if_neg c3] at h
 by_cases c4 : p.code = 4
 ·rw [if_pos c4] at h
  obtain ⟨_, h⟩ := h
  split at h
  ·cases h.1
  rename_i q1
  split at h
  ·cases h.1
  rename_i q2
  split at h
  ·cases h.1
  rename_i q3
  refine ⟨_, _, _, h, fun Mo hp => ⟨{ σ with M := Mo, L := delLo σ.L p.file.toNat }, ?_, rfl⟩⟩
  unfold Did
  rw [if_neg c1, if_neg c2, if_neg c3, if_pos c4, if_neg q1, if_neg q2, if_neg q3]
  exact ⟨rfl, hset _ _ _ _ hp⟩
 ·rw [if_neg c4] at h
  obtain ⟨_, h⟩ := h
  split at h
  ·cases h.1
  rename_i q1
  refine ⟨_, _, _, h, fun Mo hp => ⟨{ σ with M := Mo, L := delLo σ.L p.file.toNat }, ?_, rfl⟩⟩
  unfold Did
  rw [if_neg c1, if_neg c2, if_neg c3, if_neg c4, if_neg q1]
  exact ⟨rfl, hset _ _ _ _ hp⟩
def SrvQ (lv : Bool) (w w1 : World) (R : List Nat) (sb dp : Nat) (σ : Sv) (c b : Nat) (P : List Rw → Prop) : Prop :=
 ∃ s n f, SrvM w w1 R sb dp σ s n f c ∧
  ((σ.up = true ∧ f = false ∧ n ≤ b ∧ Sett σ.N σ.M s n ∧ (lv = true → Live s) ∧ P = fun Mo => Mo = σ.M) ∨ (lv = false ∧ σ.up = false ∧ f = true ∧ Opn σ.N s b P))
def StepQ (lv : Bool) (σ : Sv) (p r : Pk) (ok : Bool) (σ' : Sv) (P P' : List Rw → Prop) : Prop :=
 (Handled (Puts σ.N) σ p r ok σ' ∧ σ'.up = σ.up ∧ (σ.up = true → P' = fun Mo => Mo = σ'.M) ∧ (σ.up = false → P' = P ∧ σ' = σ)) ∨
 (lv = false ∧ σ.up = true ∧ takes σ p ∧ p.asked = σ.boot ∧ judgeP σ p = 1 ∧ r = zPk ∧ ok = false ∧ σ' = { σ with up := false } ∧ P' = fun Mo => Mo = σ.M ∨ ∃ σ2, Did (Puts σ.N) σ p [] 0 σ2 ∧ σ2.M = Mo)
def HandQ (lv : Bool) (w w1 w' : World) (R : List Nat) (sb dp : Nat) (σ : Sv) (c b : Nat) (P : List Rw → Prop) (p : Pk) (e : Ending) : Prop :=
 ∃ r ok σ' R' P', e = .returned (.tuple #[pkV r, .bool ok]) ∧ StepQ lv σ p r ok σ' P P' ∧ SrvQ lv w w' R' sb dp σ' (c + 1) (b + 1) P' ∧ Only R w1 w' ∧ ∀ j ∈ R', j ∈ R ∨ w1.heap.size ≤ j
section
variable {lv : Bool} {w w1 w2 : World} {R : List Nat} {sb dp c b : Nat} {σ : Sv} {P : List Rw → Prop}
theorem SrvQ.keep (h : SrvQ lv w w1 R sb dp σ c b P) (k : Only [] w1 w2) : SrvQ lv w w2 R sb dp σ c b P := by
 obtain ⟨s, n, f, h, h2⟩ := h
 exact ⟨s, n, f, h.keep k, h2⟩
theorem SrvQ.beside {S : List Nat} (h : SrvQ lv w w1 R sb dp σ c b P) (k : Only S w1 w2) (hw : Only [] w w2) (hS : ∀ i ∈ S, i ∉ R) : SrvQ lv w w2 R sb dp σ c b P := by
 obtain ⟨s, n, f, h, h2⟩ := h
 exact ⟨s, n, f, h.beside k hw hS, h2⟩
theorem SrvQ.ok (h : SrvQ lv w w1 R sb dp σ c b P) : σ.Ok c := by
 obtain ⟨s, n, f, h, _⟩ := h
 exact h.ok
theorem SrvQ.only (h : SrvQ lv w w1 R sb dp σ c b P) : Only [] w w1 := by
 obtain ⟨s, n, f, h, _⟩ := h
 exact h.only
theorem SrvQ.new (h : SrvQ lv w w1 R sb dp σ c b P) : ∀ i ∈ R, w.heap.size ≤ i ∧ i < w1.heap.size := by
 obtain ⟨s, n, f, h, _⟩ := h
 exact h.new
theorem SrvQ.dim (h : SrvQ lv w w1 R sb dp σ c b P) : SrvQ false w w1 R sb dp σ c b P := by
 obtain ⟨s, n, f, h, h2⟩ := h
 refine ⟨s, n, f, h, ?_⟩
 rcases h2 with ⟨h1, h2, h3, h4, _, h5⟩ | ⟨_, h⟩
 ·exact .inl ⟨h1, h2, h3, h4, (fun hh => by cases hh), h5⟩
 ·exact .inr ⟨rfl, h⟩
theorem SrvQ.live (h : SrvQ true w w1 R sb dp σ c b P) : σ.up = true ∧ P = fun Mo => Mo = σ.M := by
 obtain ⟨s, n, f, h, h2⟩ := h
 rcases h2 with ⟨h1, _, _, _, _, h5⟩ | ⟨h, _⟩
 ·exact ⟨h1, h5⟩
 ·cases h
theorem SrvQ.handle (h : SrvQ lv w w1 R sb dp σ c b P) (hcc : c < 1000000) (hb : b < 4294967290) (p : Pk) (hp : p.Ok) :
  Calls Tryz.prog 23 #[.pointer (some ⟨sb, 0, none⟩), pkV p] w1 fun e w' => HandQ lv w w1 w' R sb dp σ c b P p e := by
 obtain ⟨s, n, f, ⟨rp, mb, lp, lb, F, vs, D, h⟩, hcase⟩ := h
 refine (h.handleC hcc p hp (fun hu => ?_)).mono ?_
 ·rcases hcase with ⟨_, h2, h3, h4, _⟩ | ⟨_, h1, _⟩
  ·exact ⟨h2, by omega, by rw [h4.late]; decide⟩
  ·rw [hu] at h1; cases h1
 rintro e w' ⟨r, ok, σ', s', n', f', R', rfl, hst, hm, hk, hR⟩
 refine ⟨r, ok, σ', R', ?_⟩
 have hG := h.ok.good
 rcases hcase with ⟨hu, rfl, hn, hS, hlv, rfl⟩ | ⟨hl, hu, rfl, hO⟩
 ·rcases hst with ⟨h1, rfl, rfl, rfl⟩ | ⟨_, h1, l, er, hc, hup⟩
  ·have h2 := handled_mono (C' := Puts σ.N) (fun _ _ _ hh => hh.elim) h1
   have hM := handled_noC h1
   have h3 := handled_up h2
   have h4 := (handled_same h1).1
   exact ⟨_, rfl, .inl ⟨h2, h3, fun _ => rfl, fun hh => by rw [hu] at hh; cases hh⟩, ⟨s', n', false, hm, .inl ⟨h3.trans hu, rfl, by omega, by rw [h4, hM]; exact hS, hlv, rfl⟩⟩, hk, hR⟩
  ·obtain ⟨_, _, _, _, _, _, _, h6⟩ := id hm
   have hf' := h6.own.own.dev.fine
   obtain ⟨g1, g2⟩ := commits_flag hS.len hG (by omega) hc
   by_cases h5 : er = 5
   ·rw [if_pos h5] at hup
    have hlf : lv = false := by
     cases lv with
     | false => rfl
     | true =>
      exfalso
      obtain ⟨q, _⟩ := puts_of (hlv rfl) hS.len hG (by omega) hc
      rcases q with ⟨_, q, _⟩ | ⟨_, _, q, _⟩ | ⟨_, _, q, _⟩ <;> omega
    obtain ⟨a1, a2, a3, a4, a5, d, σ1, a6, a7⟩ := handled_died h1 hu hup
    obtain ⟨x, o, ch, ⟨M', b1, b2⟩, b3⟩ := did_five a6
    obtain ⟨_, b4⟩ := commits_flag hS.len hG (by omega) b1
    obtain ⟨b5, _⟩ := b4 rfl
    have hT := hS.torn hG hf' (by omega) b1 rfl
    have hσ : σ' = { σ with up := false } := by rw [a7, b2, b5]; rfl
    refine ⟨_, rfl, .inr ⟨hlf, hu, a1, a2, a3, a4, a5, hσ, rfl⟩, ⟨s', n', f', hm, .inr ⟨hlf, hup, g1.2 h5, ?_⟩⟩, hk, hR⟩
    have hN : σ'.N = σ.N := by rw [hσ]
    rw [hN]
    refine ⟨hT.1, fun keep => ?_⟩
    obtain ⟨t1, t2, Mo, t3, t4, t5⟩ := hT.2 keep
    exact ⟨t1, by omega, Mo, t3, t4.imp id (fun hh => b3 _ hh), t5⟩
   ·rw [if_neg h5] at hup
    obtain ⟨c1, rfl, _, c4⟩ := hS.commit hG hf' (by omega) hc h5
    have h2 := handled_mono (C' := Puts σ.N) (fun l e M' (hh : Commits5 σ.N σ.M s n false l e M' s' n' false) => (hS.commit hG hf' (by omega) hh (fun he => by
     have := (commits_flag hS.len hG (by omega) hh).1.2 he
     cases this)).2.2.1) h1
    have h4 := (handled_same h1).1
    refine ⟨_, rfl, .inl ⟨h2, hup, fun _ => rfl, fun hh => by rw [hu] at hh; cases hh⟩, ⟨s', n', false, hm, .inl ⟨hup.trans hu, rfl, by omega, by rw [h4]; exact c1, fun hh => ?_, rfl⟩⟩, hk, hR⟩
    exact (puts_of (hlv hh) hS.len hG (by omega) hc).2.1
 ·rcases hst with ⟨h1, rfl, rfl, rfl⟩ | ⟨hh, _⟩
  ·have h2 := handled_mono (C' := Puts σ.N) (fun _ _ _ hh => hh.elim) h1
   have hσ : σ' = σ := by
    rcases h1 with ⟨_, _, _, h⟩ | ⟨⟨hh, _⟩, _⟩ | ⟨⟨hh, _⟩, _⟩ | ⟨⟨hh, _⟩, _⟩ | ⟨⟨hh, _⟩, _⟩
    ·exact h
    all_goals (rw [hu] at hh; cases hh)
   subst hσ
   exact ⟨P, rfl, .inl ⟨h2, rfl, fun hh => (by rw [hu] at hh; cases hh), fun _ => ⟨rfl, rfl⟩⟩, ⟨s', n', true, hm, .inr ⟨hl, hu, rfl, hO.mono (by omega)⟩⟩, hk, hR⟩
  ·cases hh
theorem SrvQ.epoch (h : SrvQ lv w w1 R sb dp σ c b P) (x : Int) (hx : U x) :
  Calls Tryz.prog 18 #[.pointer (some ⟨sb, 0, none⟩), .int .u32 x] w1 fun e w' => e = .returned (.int .u32 (epN σ.M x.toNat : Int)) ∧ Only [] w1 w' := by
 obtain ⟨s, n, f, ⟨rp, mb, lp, lb, F, vs, D, h⟩, _⟩ := h
 exact h.epoch x hx
theorem SrvQ.object (h : SrvQ lv w w1 R sb dp σ c b P) (x : Int) (y : Nat) (hx : x = y) (hy : y < 4294967296) :
  Calls Tryz.prog 19 #[.pointer (some ⟨sb, 0, none⟩), .int .u32 x] w1 fun e w' => ∃ v, e = .returned v ∧ NewPg w1 w' v (objL σ y) := by
 obtain ⟨s, n, f, ⟨rp, mb, lp, lb, F, vs, D, h⟩, _⟩ := h
 exact h.object x y hx hy
theorem SrvQ.sure (h : SrvQ lv w w1 R sb dp σ c b P) (x : Int) (y : Nat) (hx : x = y) (hy : y < 4294967296) :
  Calls Tryz.prog 27 #[.pointer (some ⟨sb, 0, none⟩), .int .u32 x] w1 fun e w' => ∃ v, e = .returned v ∧ NewPg w1 w' v (sureL σ.M y) := by
 obtain ⟨s, n, f, ⟨rp, mb, lp, lb, F, vs, D, h⟩, _⟩ := h
 exact h.sure x y hx hy
theorem SrvQ.boot (h : SrvQ lv w w1 R sb dp σ c b P) : Calls Tryz.prog 21 #[.pointer (some ⟨sb, 0, none⟩)] w1 fun e w' => e = .returned (.int .u32 σ.boot) ∧ w' = w1 := by
 obtain ⟨s, n, f, ⟨rp, mb, lp, lb, F, vs, D, h⟩, _⟩ := h
 exact h.bootC
theorem SrvAt.dev {s t : St} {n rp mb lp lb : Nat} {f : Bool} {F : List Nat} {vs : Nat → Value} {D : DataW Value} (h : SrvAt w w1 R sb dp σ s n f c rp mb lp lb F vs D) (hsm : Same w1 w2 dp F t) (hl : t.firm.length = s.firm.length) : SrvAt w w2 R sb dp σ t n f c rp mb lp lb F vs D := by
 have hd := h.own.own.d.same hsm
 have a2 := h.ap2
 have a3 := h.ap3
 simp only [List.mem_cons, not_or] at a2 a3
 refine ⟨⟨⟨hd.dev, Blk.kept h.own.own.log hsm.2 h.own.own.out, h.own.own.out, h.own.own.old, hd.only, hd.new⟩, h.own.rows.kept hsm.2 h.own.out1 h.own.out2, h.own.ne1, h.own.ne2, h.own.ne3, h.own.out1, h.own.out2, h.own.old1, h.own.old2⟩,
  h.hdr.kept hsm.2 a2.2.2.2, h.loose.kept hsm.2 a3.2.2.2, fun x o hx => ?_, h.ap1, h.ap2, h.ap3, h.inR, fun i hi => ⟨(h.new i hi).1, Nat.lt_of_lt_of_le (h.new i hi).2 hsm.2.size⟩, hl.trans h.len, h.ok, h.few⟩
 obtain ⟨A, k, e1, e2, e3, e4⟩ := h.lists x o hx
 exact ⟨A, k, e1, e2, e3.kept hsm.2 (fun a ha hm => (e4 a ha).2 (by simp only [List.mem_cons]; exact .inr (.inr (.inr (.inr hm))))), e4⟩
theorem SrvQ.fuse (h : SrvQ lv w w1 R sb dp σ c b P) (x : Int) (h0 : -9223372036854775808 ≤ x) (h1 : x ≤ 9223372036854775807) :
  Calls Tryz.prog 22 #[.pointer (some ⟨dp, 0, none⟩), .int .i64 x] w1 fun e w' => e = .returned (.tuple #[]) ∧ SrvQ false w w' R sb dp σ c b P ∧ Only R w1 w' := by
 obtain ⟨s, n, f, ⟨rp, mb, lp, lb, F, vs, D, h⟩, hcase⟩ := h
 refine (fuse_any w1 dp F s x h0 h1 h.own.own.dev).mono ?_
 rintro e w' ⟨he, hsm⟩
 refine ⟨he, ⟨lit s x, n, f, ⟨rp, mb, lp, lb, F, vs, D, h.dev hsm rfl⟩, ?_⟩, hsm.2.more (fun i hi => .inl (h.inR i (by simp [hi])))⟩
 rcases hcase with ⟨h1, h2, h3, h4, _, h5⟩ | ⟨_, h2, h3, h4⟩
 ·exact .inl ⟨h1, h2, h3, ⟨h4.len, h4.late, h4.lays, jok_congr (s := s) (t := lit s x) rfl (fun _ => rfl) h4.jok⟩, (fun hh => by cases hh), h5⟩
 ·exact .inr ⟨rfl, h2, h3, h4⟩
def DevQ (w w1 : World) (F : List Nat) (dp N b : Nat) (P : List Rw → Prop) : Prop :=
 ∃ s, OwnD w w1 F dp s ∧ Live s ∧ s.late = [] ∧ s.firm.length = 41 + N ∧ openErr s = 0 ∧ openN s ≤ b ∧ ∃ Mo, Good N Mo ∧ P Mo ∧ Sett N Mo (openSt s) (openN s)
def HdrB (w : World) (sb : Nat) (σ : Sv) : Prop := ∃ rp lb, Blk w sb 116 (srvCs σ rp lb).toArray
theorem HdrB.kept {S : List Nat} {w w' : World} (h : HdrB w sb σ) (k : Only S w w') (hS : sb ∉ S) : HdrB w' sb σ := by
 obtain ⟨rp, lb, h⟩ := h
 exact ⟨rp, lb, h.kept k hS⟩
theorem HdrB.boot {w : World} (h : HdrB w sb σ) : Calls Tryz.prog 21 #[.pointer (some ⟨sb, 0, none⟩)] w fun e w' => e = .returned (.int .u32 σ.boot) ∧ w' = w := by
 obtain ⟨rp, lb, h⟩ := h
 have c1 : w.cell? ⟨sb, 1, none⟩ = some (.int .u32 σ.boot) := (h.cell 1).trans (by simp [srvCs])
 clear h
 go_enter Tryz.func21, Tryz.ntmps21
 go_wp2
 go_ret
 exact ⟨rfl, rfl⟩
theorem SrvQ.crash (h : SrvQ lv w w1 R sb dp σ c b P) (hN : 1 ≤ σ.N) (keep : Nat) (hk : keep < 18446744073709551616) :
  Calls Tryz.prog 20 #[.pointer (some ⟨dp, 0, none⟩), .int .u64 (keep : Int)] w1 fun e w' => ∃ F, e = .returned (.tuple #[]) ∧ DevQ w w' F dp σ.N b P ∧ HdrB w' sb σ ∧ sb ∉ F ∧ (∀ i ∈ F, i ∈ R) ∧ sb ∈ R ∧ Only F w1 w' := by
 obtain ⟨s, n, f, ⟨rp, mb, lp, lb, F, vs, D, h⟩, hcase⟩ := h
 have hO : Opn σ.N s b P := by
  rcases hcase with ⟨_, _, h3, h4, _, h5⟩ | ⟨_, _, _, h4⟩
  ·rw [h5]
   exact (h4.opn hN h.own.own.dev.fine h.ok.good).mono h3
  ·exact h4
 have a2 := h.ap2
 simp only [List.mem_cons, not_or] at a2
 refine (h.own.own.d.crash keep hk).mono ?_
 rintro e w' ⟨he, hd, hkk⟩
 obtain ⟨q1, q2, Mo, q3, q4, q5⟩ := hO.2 keep
 exact ⟨F, he, ⟨_, hd, crash_live _ _, rfl, (crash_len _ _).trans h.len, q1, q2, Mo, q3, q4, q5⟩, ⟨rp, lb, h.hdr.kept hkk a2.2.2.2⟩, a2.2.2.2, fun i hi => h.inR i (by simp [hi]), h.inR sb (by simp), hkk⟩
theorem DevQ.only {F : List Nat} {N : Nat} (h : DevQ w w1 F dp N b P) : Only [] w w1 := by
 obtain ⟨s, h, _⟩ := h
 exact h.only
theorem stepQ_num {p r : Pk} {ok : Bool} {σ' : Sv} {P' : List Rw → Prop} (h : StepQ lv σ p r ok σ' P P') : σ'.N = σ.N := by
 rcases h with ⟨h, _⟩ | ⟨_, _, _, _, _, _, _, rfl, _⟩
 ·exact (handled_same h).1
 ·rfl
def NewQ (w w1 w' : World) (F : List Nat) (dp N b bt : Nat) (P : List Rw → Prop) (e : Ending) : Prop :=
 ∃ sb R Mo M', e = .returned (.tuple #[.pointer (some ⟨sb, 0, none⟩), .int .i64 0]) ∧ Good N Mo ∧ P Mo ∧ Good N M' ∧ (∀ k, getR M' k = afterK (boCh (bt + 1)) Mo k) ∧
  SrvQ true w w' R sb dp (srv0 N 1 ((bt : Int) + 1) M') 0 (b + 1) (fun M => M = M') ∧ Only F w1 w' ∧ ∀ j ∈ R, j ∈ F ∨ w1.heap.size ≤ j
theorem DevQ.start {F : List Nat} {N bt : Nat} (h : DevQ w w1 F dp N b P) (hN : 1 ≤ N) (hb : b < 4294967290) (hbt : bt < 4294967290) (hP : ∀ Mo, P Mo → Good N Mo → soundB Mo = true ∧ bootN Mo = bt ∧ ∀ e M', Puts N Mo (boCh (bt + 1)) e M' → e = 0 ∧ Good N M' ∧ ∀ k, getR M' k = afterK (boCh (bt + 1)) Mo k) :
  Calls Tryz.prog 15 #[.pointer (some ⟨dp, 0, none⟩), .int .i64 1] w1 fun e w' => NewQ w w1 w' F dp N b bt P e := by
 obtain ⟨s, hd, hlv, hla, hlen, hoe, hon, Mo, hG, hPM, hS⟩ := h
 obtain ⟨g1, g2, g3⟩ := hP Mo hPM hG
 have hfine := hd.dev.fine
 have h42 : 42 ≤ s.firm.length := by omega
 obtain ⟨_, o2, _⟩ := openSt_live hfine hlv h42
 have hdl : (dataS (openSt s)).length = N := by rw [dataS_length, hS.len]; omega
 have hpar : parseL (dataS (openSt s)) = some Mo := parse_lays (by rw [hdl]; exact hG) hS.lays
 refine (OwnD.startC hd 1 ⟨by decide, by decide⟩ (by rw [hla]; decide) hS.len (by rw [hS.late]; decide) (by omega) (fun M hM => by rw [hpar] at hM; injection hM with hM; rw [← hM]; exact hG)).mono ?_
 rintro e w' (⟨x, hr, _, _⟩ | ⟨nb, R, bb, M, M', s', n', f', _, _, hp, _, hbg, he, hm, hk, hR⟩)
 ·exfalso
  rcases hr with ⟨h1, _⟩ | ⟨_, h1⟩
  ·exact h1 ⟨by decide, by decide⟩
  ·rcases h1 with (⟨h1, _⟩ | ⟨_, h1, _⟩) | ⟨M, _, hp, h1⟩
   ·exact h1 hoe
   ·rw [hpar] at h1; cases h1
   ·rw [hpar] at hp
    injection hp with hp
    subst hp
    rcases h1 with ⟨h1, _⟩ | ⟨_, hx, b', M', s', n', f', hbg⟩
    ·rw [g1] at h1; cases h1
    ·rcases hbg with ⟨h1, _⟩ | ⟨_, hc, _⟩
     ·rw [g2] at h1; omega
     ·rw [g2] at hc
      exact hx (g3 _ _ (puts_of o2 hS.len hG (by omega) hc).1).1
 ·rw [hpar] at hp
  injection hp with hp
  subst hp
  rcases hbg with ⟨h1, _⟩ | ⟨_, hc, hbb⟩
  ·rw [g2] at h1; omega
  ·rw [g2] at hc hbb
   rw [if_pos rfl] at hbb
   subst hbb
   obtain ⟨_, _, _, _, _, _, _, h6⟩ := id hm
   obtain ⟨q0, q1, _⟩ := puts_of o2 hS.len hG (by omega) hc
   obtain ⟨c1, rfl, _, c4⟩ := hS.commit hG h6.own.own.dev.fine (by omega) hc (by decide)
   obtain ⟨_, r2, r3⟩ := g3 _ _ q0
   exact ⟨nb, R, Mo, M', he, hG, hPM, r2, r3, ⟨s', n', false, hm, .inl ⟨rfl, rfl, by omega, c1, fun _ => q1, rfl⟩⟩, hk, hR⟩
theorem fresh_jok (K : Nat) (hK : 42 ≤ K) : Jok (fresh K) 0 := by
 have h0 : blkB (fresh K) 0 = rep 256 0 := fresh_blk K 0 (by omega)
 refine ⟨by rw [h0]; exact mark_zero.1, fun x hx => ?_⟩
 have : openL (fresh K) = [] := by
  unfold openL
  rw [h0, mark_zero.2]
  exact redoL_zero _ _
 rw [this] at hx
 cases hx
theorem fresh_lays (K : Nat) : Lays (dataS (fresh K)) [] := lays_zeros fun d hd => by
 simp only [dataS, List.mem_map, List.mem_range, fresh_firm] at hd
 obtain ⟨j, hj, rfl⟩ := hd
 rw [fresh_blk K (41 + j) (by omega)]
 decide +kernel
theorem OwnD.devQ {F : List Nat} {N : Nat} (h : OwnD w w1 F dp (fresh (41 + N))) (hN : 1 ≤ N) : DevQ w w1 F dp N 0 (fun M => M = []) := by
 obtain ⟨e1, e2, e3⟩ := open_fresh (41 + N) (by omega)
 exact ⟨_, h, fresh_live _, rfl, fresh_firm _, e1, by rw [e3]; exact Nat.le_refl _, [], Good.nil _, rfl, by rw [e2]; exact fresh_firm _, by rw [e2]; rfl, by rw [e2]; exact fresh_lays _, by rw [e2, e3]; exact fresh_jok _ (by omega)⟩
theorem Sane.begins {N bt : Nat} {Mo : List Rw} (h : Sane Mo bt) (hb : bt < 4294967290) (hG : Good N Mo) : soundB Mo = true ∧ Srv.bootN Mo = bt ∧ ∀ e M', Puts N Mo (boCh (bt + 1)) e M' → e = 0 ∧ Good N M' ∧ ∀ k, getR M' k = afterK (boCh (bt + 1)) Mo k :=
 ⟨h.sound hG, h.bootN (by omega), fun _ _ hp => boot_room hG (by rw [h.boot]; rfl) hp⟩
theorem new_rows {N : Nat} (hN : 1 ≤ N) (Mo : List Rw) (h : Mo = []) : soundB Mo = true ∧ bootN Mo = 0 ∧ ∀ e M', Puts N Mo (boCh (0 + 1)) e M' → e = 0 ∧ Good N M' ∧ ∀ k, getR M' k = afterK (boCh (0 + 1)) Mo k := by
 subst h
 refine ⟨by decide +kernel, rfl, fun e M' hp => ?_⟩
 rcases boot_puts hp with ⟨_, _, h⟩ | h
 ·simp at h; omega
 ·exact h
end
end Go.Proofs.YtmelaiefbpdifaaGreatDoor.Srv
