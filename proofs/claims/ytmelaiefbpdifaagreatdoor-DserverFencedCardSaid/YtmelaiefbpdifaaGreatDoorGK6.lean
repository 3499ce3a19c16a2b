/- Joined: Th13, Lv13, Al13 -/
import Derived.Test.YtmelaiefbpdifaaGreatDoorGK5
namespace Go.Proofs.YtmelaiefbpdifaaGreatDoor.Srv
open Go.RowKit Go.Maps
open Pgs (Pg keyB headB find allZ chgL ldL ldOk Holds chgL_mem chgL_len hit_other keyB_eq after_page after_other pre_key pre_two pre_iff)
theorem afterK_left {a b : List Ch} {M : List Rw} {k : List UInt8} (h : hitL b k = none) : afterK (a ++ b) M k = afterK a M k := by
 unfold afterK
 have e : hitL (a ++ b) k = (hitL a k).or (hitL b k) := by unfold hitL; exact List.find?_append
 rw [e, h, Option.or_none]
theorem afterK_right {a b : List Ch} {M : List Rw} {k : List UInt8} (h : hitL a k = none) : afterK (a ++ b) M k = afterK b M k := by
 unfold afterK
 have e : hitL (a ++ b) k = (hitL a k).or (hitL b k) := by unfold hitL; exact List.find?_append
 rw [e, h, Option.none_or]
theorem keyB_ne_eK (x n y : Nat) : keyB x n ≠ eK y := fun h => by
 have := congrArg (fun l => l.getD 0 0) h
 exact absurd this (by decide : ¬ (80 : UInt8) = 69)
theorem keyB_ne_bK (x n : Nat) : keyB x n ≠ bK := fun h => by
 have := congrArg (fun l => l.getD 0 0) h
 exact absurd this (by decide : ¬ (80 : UInt8) = 66)
theorem eK_ne_bK (x : Nat) : eK x ≠ bK := fun h => by
 have := congrArg (fun l => l.getD 0 0) h
 exact absurd this (by decide : ¬ (69 : UInt8) = 66)
theorem eK_inj {x y : Nat} (hx : x < 4294967296) (hy : y < 4294967296) (h : eK x = eK y) : x = y := by
 have h1 : be4 x = be4 y := by unfold eK at h; injection h
 have h2 := congrArg numOf h1
 rwa [numOf_be4 x hx, numOf_be4 y hy] at h2
def ChOk (x : Nat) (ch : List Ch) : Prop := ch = [] ∨ ∃ v g, ch = [⟨eK x, v, g⟩] ∧ v.length ≤ 200 ∧ (g = true → v = [])
theorem ChOk.nil (x : Nat) : ChOk x [] := .inl rfl
theorem ChOk.fe (p : Pk) : ChOk p.file.toNat (feCh p) := .inr ⟨_, _, rfl, by rw [be4_length]; decide, fun h => by cases h⟩
theorem ChOk.fr (p : Pk) : ChOk p.file.toNat (frCh p) := .inr ⟨_, _, rfl, by simp, fun _ => rfl⟩
theorem ChOk.hit {x : Nat} {ch : List Ch} (h : ChOk x ch) {k : List UInt8} (hk : k ≠ eK x) : hitL ch k = none := by
 rcases h with rfl | ⟨v, g, rfl, _⟩
 ·rfl
 ·unfold hitL
  rw [List.find?_cons]
  have : (eK x == k) = false := by rw [beq_eq_false_iff_ne]; exact fun e => hk e.symm
  simp [this]
theorem ChOk.len {x : Nat} {ch : List Ch} (h : ChOk x ch) : ch.length ≤ 1 := by
 rcases h with rfl | ⟨v, g, rfl, _⟩ <;> simp
theorem chg_hit_eK (x y : Nat) (o p : List Pg) : hitL (chgL x o p) (eK y) = none := hit_other (headB x) _ _ _ 32 fun n _ e => keyB_ne_eK x n y (by rw [keyB_eq]; exact e.symm)
theorem set_fit {M : List Rw} {x : Nat} {o : List Pg} {ch : List Ch} (ho : Pgs.right o = true) (hc : ChOk x ch) : FitL (setCh M x o ch) := by
 unfold setCh
 obtain ⟨h1, h2⟩ := chgL_mem (x := x) (o := sureL M x) ho
 have h40 := chgL_len x (sureL M x) o
 have hch : ∀ c ∈ ch, c.key = eK x ∧ c.val.length ≤ 200 ∧ (c.gone = true → c.val = []) := fun c hcm => by
  rcases hc with rfl | ⟨v, g, rfl, q1, q2⟩
  ·cases hcm
  ·simp only [List.mem_singleton] at hcm
   subst hcm
   exact ⟨rfl, q1, q2⟩
 refine fits_to ⟨?_, List.pairwise_append.2 ⟨h2, ?_, fun a ha b hb => ?_⟩, fun c hcm => ?_, fun c hcm => ?_⟩
 ·have := hc.len; rw [List.length_append]; omega
 ·rcases hc with rfl | ⟨v, g, rfl, _⟩
  ·exact List.Pairwise.nil
  ·exact List.pairwise_singleton _ _
 ·obtain ⟨n, _, e, _⟩ := h1 a ha
  rw [e, (hch b hb).1]
  exact keyB_ne_eK x n x
 ·rcases List.mem_append.1 hcm with hcm | hcm
  ·obtain ⟨n, _, e, q, _⟩ := h1 c hcm
   rw [e, Pgs.keyB_length]
   exact ⟨by decide, by decide, by omega⟩
  ·obtain ⟨e, q, _⟩ := hch c hcm
   rw [e, eK_length]
   exact ⟨by decide, by decide, q⟩
 ·rcases List.mem_append.1 hcm with hcm | hcm
  ·obtain ⟨n, _, e, _, q⟩ := h1 c hcm
   exact q
  ·exact (hch c hcm).2.2
theorem set_puts {N : Nat} {M M' : List Rw} {x : Nat} {o : List Pg} {ch : List Ch} {e : Int} (ho : Pgs.right o = true) (hc : ChOk x ch) (h : Puts N M (setCh M x o ch) e M') :
  (e = 6 ∧ M' = M ∧ N < M.length + 33) ∨ (e = 0 ∧ Good N M' ∧ ∀ k, getR M' k = afterK (setCh M x o ch) M k) := by
 have hg := Pgs.growth_le M (newsL M (setCh M x o ch))
 have hl : (newsL M (setCh M x o ch)).length ≤ 33 := by
  have h1 := List.length_filter_le (isNews M) (setCh M x o ch)
  have h2 := chgL_len x (sureL M x) o
  have h3 := hc.len
  have h4 : (setCh M x o ch).length = (chgL x (sureL M x) o).length + ch.length := by unfold setCh; exact List.length_append
  show (List.filter (isNews M) (setCh M x o ch)).length ≤ 33
  omega
 rcases h with ⟨h, _⟩ | ⟨_, h, rfl, rfl⟩ | ⟨_, _, h1, h2, h3⟩
 ·exact absurd (set_fit ho hc) h
 ·exact .inl ⟨rfl, rfl, by omega⟩
 ·exact .inr ⟨h1, h2, h3⟩
def Snd (M : List Rw) : Prop := ∀ x, x < 4294967296 → Holds M x (sureL M x)
theorem pre_ne_eK {x z : Nat} {k : List UInt8} (h : preK (headB x) k = true) : k ≠ eK z := fun e => by
 have h1 := (pre_iff.1 h).2
 rw [e] at h1
 have := congrArg (fun l => l.getD 0 0) h1
 exact absurd this (by decide : ¬ (69 : UInt8) = 80)
theorem pre_ne_bK {x : Nat} {k : List UInt8} (h : preK (headB x) k = true) : k ≠ bK := fun e => by
 have h1 := (pre_iff.1 h).1
 rw [e, Pgs.headB_length] at h1
 exact absurd h1 (by decide)
structure SetOk (M M' : List Rw) (x : Nat) (o : List Pg) (ch : List Ch) : Prop where
 it : sureL M' x = o
 other : ∀ y, y < 4294967296 → y ≠ x → sureL M' y = sureL M y
 snd : Snd M'
 ep : getR M' (eK x) = afterK ch M (eK x)
 rest : ∀ k, k ≠ eK x → (∀ n, n < 32 → k ≠ keyB x n) → getR M' k = getR M k
theorem set_ok {N : Nat} {M M' : List Rw} {x : Nat} {o : List Pg} {ch : List Ch} (hS : Snd M) (hx : x < 4294967296) (ho : Pgs.right o = true) (hc : ChOk x ch) (hM' : Good N M') (h : ∀ k, getR M' k = afterK (setCh M x o ch) M k) : SetOk M M' x o ch := by
 have hM : ∀ k, k ≠ eK x → getR M' k = afterK (chgL x (sureL M x) o) M k := fun k hk => by
  rw [h k]
  exact afterK_left (hc.hit hk)
 have hX : Holds M' x o := by
  refine ⟨fun n hn => ?_, fun k hk hne => ?_⟩
  ·rw [hM _ (keyB_ne_eK x n x), after_page (sure_right M x) ho hn]
   by_cases h1 : find o n = find (sureL M x) n
   ·rw [if_pos h1, (hS x hx).pages n hn, h1]
   ·rw [if_neg h1]
  ·rw [hM _ (pre_ne_eK hk), after_other hne]
   exact (hS x hx).only k hk hne
 have hY : ∀ y, y < 4294967296 → y ≠ x → Holds M' y (sureL M y) := fun y hy hyx => by
  have hne : ∀ k, preK (headB y) k = true → ∀ n, n < 32 → k ≠ keyB x n := fun k hk n _ e => hyx (pre_two hx hy (by rw [e]; exact pre_key x n) hk).symm
  refine ⟨fun n hn => ?_, fun k hk hnn => ?_⟩
  ·rw [hM _ (keyB_ne_eK y n x), after_other (hne _ (pre_key y n))]
   exact (hS y hy).pages n hn
  ·rw [hM _ (pre_ne_eK hk), after_other (hne k hk)]
   exact (hS y hy).only k hk hnn
 have e1 : sureL M' x = o := (hX.load hM' ho).2
 have e2 : ∀ y, y < 4294967296 → y ≠ x → sureL M' y = sureL M y := fun y hy hyx => ((hY y hy hyx).load hM' (sure_right M y)).2
 refine ⟨e1, e2, fun y hy => ?_, ?_, fun k hk hne => ?_⟩
 ·by_cases hyx : y = x
  ·subst hyx
   rw [e1]; exact hX
  ·rw [e2 y hy hyx]; exact hY y hy hyx
 ·rw [h]
  exact afterK_right (chg_hit_eK x x _ _)
 ·rw [hM k hk]
  exact after_other hne
theorem sure_nil0 (x : Nat) : sureL [] x = [] := rfl
theorem snd_nil : Snd [] := fun x _ => by rw [sure_nil0]; exact Pgs.holds_nil x
theorem boot_ok {N : Nat} {M M' : List Rw} {b : Nat} (hS : Snd M) (hM' : Good N M') (h : ∀ k, getR M' k = afterK (boCh b) M k) : (∀ y, y < 4294967296 → sureL M' y = sureL M y) ∧ Snd M' ∧ getR M' bK = some (be4 b) ∧ ∀ k, k ≠ bK → getR M' k = getR M k := by
 have hr : ∀ k, k ≠ bK → getR M' k = getR M k := fun k hk => by
  rw [h k]
  unfold afterK boCh hitL
  rw [List.find?_cons]
  have : (bK == k) = false := by rw [beq_eq_false_iff_ne]; exact fun e => hk e.symm
  simp [this]
 have hY : ∀ y, y < 4294967296 → Holds M' y (sureL M y) := fun y hy =>
  ⟨fun n hn => by rw [hr _ (keyB_ne_bK y n)]; exact (hS y hy).pages n hn, fun k hk hnn => by rw [hr _ (pre_ne_bK hk)]; exact (hS y hy).only k hk hnn⟩
 have e2 : ∀ y, y < 4294967296 → sureL M' y = sureL M y := fun y hy => ((hY y hy).load hM' (sure_right M y)).2
 refine ⟨e2, fun y hy => by rw [e2 y hy]; exact hY y hy, ?_, hr⟩
 rw [h bK]
 unfold afterK boCh hitL
 simp
theorem boot_fit (b : Nat) : FitL (boCh b) := fits_to ⟨by simp [boCh], by simp [boCh], by simp [boCh, bK, be4_length], by simp [boCh]⟩
theorem boot_puts {N : Nat} {M M' : List Rw} {b : Nat} {e : Int} (h : Puts N M (boCh b) e M') : (e = 6 ∧ M' = M ∧ N < M.length + 1) ∨ (e = 0 ∧ Good N M' ∧ ∀ k, getR M' k = afterK (boCh b) M k) := by
 have hg := Pgs.growth_le M (newsL M (boCh b))
 have hl : (newsL M (boCh b)).length ≤ 1 := List.length_filter_le (isNews M) (boCh b)
 rcases h with ⟨h, _⟩ | ⟨_, h, rfl, rfl⟩ | ⟨_, _, h1, h2, h3⟩
 ·exact absurd (boot_fit b) h
 ·exact .inl ⟨rfl, rfl, by omega⟩
 ·exact .inr ⟨h1, h2, h3⟩
end Go.Proofs.YtmelaiefbpdifaaGreatDoor.Srv
namespace Go.Proofs.YtmelaiefbpdifaaGreatDoor.Srv
open Go.RowKit Go.Maps
open Pgs (Pg keyB headB find allZ chgL)
theorem did_mono {C C' : Com} {σ σ' : Sv} {p : Pk} {d : List UInt8} {e : Int} (hC : ∀ l e M', C σ.M l e M' → C' σ.M l e M') (h : Did C σ p d e σ') : Did C' σ p d e σ' := by
 have hs : ∀ x o ch, Settled C σ x o ch e σ' → Settled C' σ x o ch e σ' := fun x o ch h => by
  obtain ⟨M', hc, he⟩ := h
  exact ⟨M', hC _ _ _ hc, he⟩
 unfold Did at h ⊢
 split
 ·rename_i h1; rw [if_pos h1] at h; exact h
 ·rename_i h1
  rw [if_neg h1] at h
  split
  ·rename_i h2; rw [if_pos h2] at h; exact h
  ·rename_i h2
   rw [if_neg h2] at h
   split
   ·rename_i h3
    rw [if_pos h3] at h
    refine ⟨h.1, ?_⟩
    split
    ·rename_i h4; have := h.2; rw [if_pos h4] at this; exact this
    ·rename_i h4; have := h.2; rw [if_neg h4] at this; exact hs _ _ _ this
   ·rename_i h3
    rw [if_neg h3] at h
    split
    ·rename_i h4
     rw [if_pos h4] at h
     refine ⟨h.1, ?_⟩
     have h := h.2
     split
     ·rename_i h5; rw [if_pos h5] at h; exact h
     ·rename_i h5
      rw [if_neg h5] at h
      split
      ·rename_i h6; rw [if_pos h6] at h; exact h
      ·rename_i h6
       rw [if_neg h6] at h
       split
       ·rename_i h7; rw [if_pos h7] at h; exact h
       ·rename_i h7; rw [if_neg h7] at h; exact hs _ _ _ h
    ·rename_i h4
     rw [if_neg h4] at h
     refine ⟨h.1, ?_⟩
     have h := h.2
     split
     ·rename_i h5; rw [if_pos h5] at h; exact h
     ·rename_i h5; rw [if_neg h5] at h; exact hs _ _ _ h
theorem exec_mono {C C' : Com} {σ σ' : Sv} {p r : Pk} {ok : Bool} (hC : ∀ l e M', C σ.M l e M' → C' σ.M l e M') (h : Executed C σ p r ok σ') : Executed C' σ p r ok σ' := by
 obtain ⟨d, e, σ1, h1, h2⟩ := h
 exact ⟨d, e, σ1, did_mono hC h1, h2⟩
theorem handled_mono {C C' : Com} {σ σ' : Sv} {p r : Pk} {ok : Bool} (hC : ∀ l e M', C σ.M l e M' → C' σ.M l e M') (h : Handled C σ p r ok σ') : Handled C' σ p r ok σ' := by
 rcases h with h | h | ⟨h1, h2, h3, h4⟩ | h | h
 ·exact .inl h
 ·exact .inr (.inl h)
 ·exact .inr (.inr (.inl ⟨h1, h2, h3, exec_mono hC h4⟩))
 ·exact .inr (.inr (.inr (.inl h)))
 ·exact .inr (.inr (.inr (.inr h)))
theorem settled_puts5 {σ σ' : Sv} {x : Nat} {o : List Pg} {ch : List Ch} {e : Int} (h : Settled (Puts σ.N) σ x o ch e σ') : e ≠ 5 := by
 obtain ⟨M', hc, _⟩ := h
 rcases hc with ⟨_, rfl, _⟩ | ⟨_, _, rfl, _⟩ | ⟨_, _, rfl, _⟩ <;> decide
theorem did_not5 {C : Com} {σ σ' : Sv} {p : Pk} {d : List UInt8} {e : Int} (hC : ∀ x o ch, Settled C σ x o ch e σ' → e ≠ 5) (h : Did C σ p d e σ') : e ≠ 5 := by
 unfold Did at h
 split at h
 ·obtain ⟨_, rfl, _⟩ := h
  unfold wrE
  split
  ·decide
  ·split
   ·decide
   ·split <;> decide
 ·split at h
  ·obtain ⟨_, rfl, _⟩ := h
   unfold rdE
   split
   ·decide
   ·split <;> decide
  ·split at h
   ·obtain ⟨_, h⟩ := h
    split at h
    ·obtain ⟨rfl, _⟩ := h; decide
    ·exact hC _ _ _ h
   ·split at h
    ·obtain ⟨_, h⟩ := h
     split at h
     ·obtain ⟨rfl, _⟩ := h; decide
     ·split at h
      ·obtain ⟨rfl, _⟩ := h; decide
      ·split at h
       ·obtain ⟨rfl, _⟩ := h; decide
       ·exact hC _ _ _ h
    ·obtain ⟨_, h⟩ := h
     split at h
     ·obtain ⟨rfl, _⟩ := h; decide
     ·exact hC _ _ _ h
theorem handled_same {C : Com} {σ σ' : Sv} {p r : Pk} {ok : Bool} (h : Handled C σ p r ok σ') : σ'.N = σ.N ∧ σ'.me = σ.me ∧ σ'.boot = σ.boot := by
 rcases h with ⟨_, _, _, rfl⟩ | ⟨_, _, _, _, rfl⟩ | ⟨_, _, _, d, e, σ1, h1, h2⟩ | ⟨_, _, _, _, _, rfl⟩ | ⟨_, _, _, _, _, rfl⟩
 ·exact ⟨rfl, rfl, rfl⟩
 ·exact ⟨rfl, rfl, rfl⟩
 ·obtain ⟨a1, a2, a3, _, _⟩ := did_same h1
  rcases h2 with ⟨_, _, _, rfl⟩ | ⟨_, _, _, rfl⟩ <;> exact ⟨a1, a2, a3⟩
 ·exact ⟨rfl, rfl, rfl⟩
 ·exact ⟨rfl, rfl, rfl⟩
theorem handled_up {σ σ' : Sv} {p r : Pk} {ok : Bool} (h : Handled (Puts σ.N) σ p r ok σ') : σ'.up = σ.up := by
 rcases h with ⟨_, _, _, rfl⟩ | ⟨_, _, _, _, rfl⟩ | ⟨_, _, _, d, e, σ1, h1, h2⟩ | ⟨_, _, _, _, _, rfl⟩ | ⟨_, _, _, _, _, rfl⟩
 ·rfl
 ·rfl
 ·obtain ⟨_, _, _, a4, _⟩ := did_same h1
  rcases h2 with ⟨h5, _⟩ | ⟨_, _, _, rfl⟩
  ·exact absurd h5 (did_not5 (fun x o ch hs => settled_puts5 hs) h1)
  ·exact a4
 ·rfl
 ·rfl
def SrvL (w w1 : World) (R : List Nat) (sb dp : Nat) (σ : Sv) (c : Nat) : Prop := ∃ s n, SrvM w w1 R sb dp σ s n false c ∧ Live s ∧ s.late.length = 0 ∧ n ≤ c + 1 ∧ σ.up = true
section
variable {w w1 w2 : World} {R : List Nat} {sb dp c : Nat} {σ : Sv}
theorem SrvL.keep (h : SrvL w w1 R sb dp σ c) (k : Only [] w1 w2) : SrvL w w2 R sb dp σ c := by
 obtain ⟨s, n, h, h2⟩ := h
 exact ⟨s, n, h.keep k, h2⟩
theorem SrvL.beside {S : List Nat} (h : SrvL w w1 R sb dp σ c) (k : Only S w1 w2) (hw : Only [] w w2) (hS : ∀ i ∈ S, i ∉ R) : SrvL w w2 R sb dp σ c := by
 obtain ⟨s, n, h, h2⟩ := h
 exact ⟨s, n, h.beside k hw hS, h2⟩
theorem SrvL.ok (h : SrvL w w1 R sb dp σ c) : σ.Ok c := by
 obtain ⟨s, n, h, _⟩ := h
 exact h.ok
theorem SrvL.only (h : SrvL w w1 R sb dp σ c) : Only [] w w1 := by
 obtain ⟨s, n, h, _⟩ := h
 exact h.only
theorem SrvL.new (h : SrvL w w1 R sb dp σ c) : ∀ i ∈ R, w.heap.size ≤ i ∧ i < w1.heap.size := by
 obtain ⟨s, n, h, _⟩ := h
 exact h.new
theorem SrvL.up (h : SrvL w w1 R sb dp σ c) : σ.up = true := by
 obtain ⟨s, n, _, _, _, _, h⟩ := h
 exact h
def LiveM (w w1 w' : World) (R : List Nat) (sb dp : Nat) (σ : Sv) (c : Nat) (p : Pk) (e : Ending) : Prop :=
 ∃ r ok σ' R', e = .returned (.tuple #[pkV r, .bool ok]) ∧ Handled (Puts σ.N) σ p r ok σ' ∧ SrvL w w' R' sb dp σ' (c + 1) ∧ Only R w1 w' ∧ ∀ j ∈ R', j ∈ R ∨ w1.heap.size ≤ j
theorem SrvL.handle (h : SrvL w w1 R sb dp σ c) (hcc : c < 1000000) (p : Pk) (hp : p.Ok) :
  Calls Tryz.prog 23 #[.pointer (some ⟨sb, 0, none⟩), pkV p] w1 fun e w' => LiveM w w1 w' R sb dp σ c p e := by
 obtain ⟨s, n, ⟨rp, mb, lp, lb, F, vs, D, h⟩, hs, hl, hn, hu⟩ := h
 refine (h.handleC hcc p hp (fun _ => ⟨rfl, by omega, by omega⟩)).mono ?_
 rintro e w' ⟨r, ok, σ', s', n', f', R', rfl, hst, hm, hk, hR⟩
 rcases hst with ⟨h1, rfl, rfl, rfl⟩ | ⟨_, h1, l, er, hc, _⟩
 ·have h2 := handled_mono (C' := Puts σ.N) (fun _ _ _ hh => hh.elim) h1
  exact ⟨r, ok, σ', R', rfl, h2, ⟨s', n', hm, hs, hl, by omega, (handled_up h2).trans hu⟩, hk, hR⟩
 ·have hP := fun l e M' (hc : Commits5 σ.N σ.M s n false l e M' s' n' f') => puts_of hs h.len h.ok.good (by omega) hc
  have h2 := handled_mono (C' := Puts σ.N) (fun l e M' hc => (hP l e M' hc).1) h1
  obtain ⟨_, q1, q2, q3, rfl, q4⟩ := hP l er _ hc
  exact ⟨r, ok, σ', R', rfl, h2, ⟨s', n', hm, q1, by omega, by omega, (handled_up h2).trans hu⟩, hk, hR⟩
theorem SrvL.epoch (h : SrvL w w1 R sb dp σ c) (x : Int) (hx : U x) :
  Calls Tryz.prog 18 #[.pointer (some ⟨sb, 0, none⟩), .int .u32 x] w1 fun e w' => e = .returned (.int .u32 (epN σ.M x.toNat : Int)) ∧ Only [] w1 w' := by
 obtain ⟨s, n, ⟨rp, mb, lp, lb, F, vs, D, h⟩, _⟩ := h
 exact h.epoch x hx
theorem SrvL.object (h : SrvL w w1 R sb dp σ c) (x : Int) (y : Nat) (hx : x = y) (hy : y < 4294967296) :
  Calls Tryz.prog 19 #[.pointer (some ⟨sb, 0, none⟩), .int .u32 x] w1 fun e w' => ∃ v, e = .returned v ∧ NewPg w1 w' v (objL σ y) := by
 obtain ⟨s, n, ⟨rp, mb, lp, lb, F, vs, D, h⟩, _⟩ := h
 exact h.object x y hx hy
theorem SrvL.sure (h : SrvL w w1 R sb dp σ c) (x : Int) (y : Nat) (hx : x = y) (hy : y < 4294967296) :
  Calls Tryz.prog 27 #[.pointer (some ⟨sb, 0, none⟩), .int .u32 x] w1 fun e w' => ∃ v, e = .returned v ∧ NewPg w1 w' v (sureL σ.M y) := by
 obtain ⟨s, n, ⟨rp, mb, lp, lb, F, vs, D, h⟩, _⟩ := h
 exact h.sure x y hx hy
theorem SrvL.room (h : SrvL w w1 R sb dp σ c) :
  Calls Tryz.prog 28 #[.pointer (some ⟨sb, 0, none⟩)] w1 fun e w' => e = .returned (.int .i64 (roomI σ)) ∧ Only [] w1 w' := by
 obtain ⟨s, n, ⟨rp, mb, lp, lb, F, vs, D, h⟩, _⟩ := h
 exact h.room
theorem SrvL.boot (h : SrvL w w1 R sb dp σ c) : Calls Tryz.prog 21 #[.pointer (some ⟨sb, 0, none⟩)] w1 fun e w' => e = .returned (.int .u32 σ.boot) ∧ w' = w1 := by
 obtain ⟨s, n, ⟨rp, mb, lp, lb, F, vs, D, h⟩, _⟩ := h
 exact h.bootC
end
def NewS (w w1 w' : World) (F : List Nat) (dp N : Nat) (me : Int) (e : Ending) : Prop :=
 ∃ sb R M', e = .returned (.tuple #[.pointer (some ⟨sb, 0, none⟩), .int .i64 0]) ∧ SrvL w w' R sb dp (srv0 N me 1 M') 0 ∧ Only F w1 w' ∧ (∀ j ∈ R, j ∈ F ∨ w1.heap.size ≤ j) ∧ Good N M' ∧ ∀ k, getR M' k = afterK (boCh 1) [] k
theorem OwnD.startL {w w1 : World} {F : List Nat} {dp N : Nat} (h : OwnD w w1 F dp (fresh (41 + N))) (hN : 1 ≤ N) (hN2 : N ≤ 983) (me : Int) (hme : 1 ≤ me ∧ me ≤ 255) :
  Calls Tryz.prog 15 #[.pointer (some ⟨dp, 0, none⟩), .int .i64 me] w1 fun e w' => NewS w w1 w' F dp N me e := by
 obtain ⟨e1, e2, e3⟩ := open_fresh (41 + N) (by omega)
 have hfl : (fresh (41 + N)).firm.length = 41 + N := fresh_firm _
 have hla : (fresh (41 + N)).late.length = 0 := rfl
 have hpar : parseL (dataS (fresh (41 + N))) = some [] := fresh_parse _
 refine (OwnD.startC h me ⟨by omega, by omega⟩ (by rw [hla]; decide) (by rw [e2]; exact hfl) (by rw [e2, hla]; decide) (by rw [e3]; decide) (fun M hM => by rw [e2, hpar] at hM; injection hM with hM; rw [← hM]; exact Good.nil _)).mono ?_
 have hb0 : bootN [] = 0 := rfl
 have hputs : ∀ x M' s' n' f', Commits5 N [] (fresh (41 + N)) 0 false (boCh (0 + 1)) x M' s' n' f' → x = 0 ∧ Good N M' ∧ (∀ k, getR M' k = afterK (boCh 1) [] k) ∧ Live s' ∧ s'.late.length = 0 ∧ f' = false ∧ n' ≤ 1 := fun x M' s' n' f' hc => by
  obtain ⟨q0, q1, q2, q3, q4, q5⟩ := puts_of (fresh_live _) hfl (Good.nil _) (by decide) hc
  rcases boot_puts q0 with ⟨_, _, h⟩ | ⟨h1, h2, h3⟩
  ·simp at h; omega
  ·exact ⟨h1, h2, h3, q1, by omega, q4, by omega⟩
 rintro e w' (⟨x, hr, _, _⟩ | ⟨sb, R, b, M, M', s', n', f', _, _, hp, _, hb, he, hm, hk, hR⟩)
 ·exfalso
  rcases hr with ⟨h1, _⟩ | ⟨_, h1⟩
  ·exact h1 hme
  ·rcases h1 with (⟨h1, _⟩ | ⟨_, h1, _⟩) | ⟨M, _, hp, h1⟩
   ·exact h1 e1
   ·rw [e2, hpar] at h1; cases h1
   ·rw [e2, hpar] at hp
    injection hp with hp
    subst hp
    rcases h1 with ⟨h1, _⟩ | ⟨_, hx, b, M', s', n', f', hb⟩
    ·exact absurd h1 (by decide +kernel)
    ·rcases hb with ⟨h1, _⟩ | ⟨_, hc, _⟩
     ·rw [hb0] at h1; exact absurd h1 (by decide)
     ·rw [e2, e3, hb0] at hc
      exact hx (hputs _ _ _ _ _ hc).1
 ·rw [e2, hpar] at hp
  injection hp with hp
  subst hp
  rw [e2, e3] at hb
  rcases hb with ⟨h1, _⟩ | ⟨_, hc, hb⟩
  ·rw [hb0] at h1; exact absurd h1 (by decide)
  ·rw [hb0] at hc hb
   obtain ⟨_, q1, q2, q3, q4, rfl, q5⟩ := hputs _ _ _ _ _ hc
   have hb1 : b = 1 := by rw [hb, if_pos rfl]; rfl
   subst hb1
   exact ⟨sb, R, M', he, ⟨s', n', hm, q3, q4, by omega, rfl⟩, hk, hR, q1, q2⟩
end Go.Proofs.YtmelaiefbpdifaaGreatDoor.Srv
namespace Go.Proofs.YtmelaiefbpdifaaGreatDoor.Srv
open Go.RowKit Go.Maps
open Pgs (Pg keyB headB find allZ chgL)
def opP (code file epoch off len size : Int) (data : ByteArray) : Pk := ⟨0, 0, 0, 0, 0, 0, 0, code, 0, file, epoch, off, len, size, 0, 0, 0, ⟨#[]⟩, ⟨#[]⟩, data⟩
def askP (fr sq bo : Int) (o : Pk) : Pk := ⟨1, fr, 1, 1, sq, bo, 0, o.code, o.err, o.file, o.epoch, o.off, o.len, o.size, o.mode, o.deny, o.handle, o.path, o.other, o.data⟩
def al1 : Pk := askP 0 1 1 (opP 4 7 1 0 0 1024 ⟨#[]⟩)
def al2 : Pk := askP 17 1 1 (opP 1 7 2 0 0 0 ⟨#[120]⟩)
def al3 : Pk := askP 17 2 1 (opP 1 7 1 3 0 0 ⟨#[97, 98, 99]⟩)
def al4 : Pk := askP 17 3 1 (opP 2 7 1 2 5 0 ⟨#[]⟩)
theorem len_after {N : Nat} {M M' : List Rw} {l : List Ch} (hM' : Good N M') (h : ∀ k, getR M' k = afterK l M k) : M'.length ≤ M.length + l.length := by
 have hn : (M'.map Rw.key).Nodup := nodup_map_of hM'.sorted.keys
 have := nodup_le (M'.map Rw.key) (M.map Rw.key ++ l.map Ch.key) hn (fun k hk => by
  obtain ⟨r, hr, rfl⟩ := List.mem_map.1 hk
  have hg : getR M' r.key = some r.val := by rw [getR, findR_of hM'.sorted hr]; rfl
  rw [h] at hg
  unfold afterK at hg
  rw [List.mem_append]
  cases hh : hitL l r.key with
  | some c =>
   obtain ⟨hc, hk⟩ := hitL_some hh
   exact .inr (List.mem_map.2 ⟨c, hc, hk⟩)
  | none =>
   rw [hh] at hg
   obtain ⟨r', _, hr', hk', _⟩ := getR_some hg
   exact .inl (List.mem_map.2 ⟨r', hr', hk'⟩))
 simpa using this
theorem handled_new {C : Com} {σ σ' : Sv} {p r : Pk} {ok : Bool} (h : Handled C σ p r ok σ') (hu : σ.up = true) (ht : takes σ p) (ha : p.asked = σ.boot) (hj : judgeP σ p = 1) : Executed C σ p r ok σ' := by
 rcases h with ⟨h1, _⟩ | ⟨_, h1, _⟩ | ⟨_, _, _, h1⟩ | ⟨_, _, h1, _⟩ | ⟨_, _, h1, _⟩
 ·exact absurd ⟨hu, ht⟩ h1
 ·exact absurd ha h1
 ·exact h1
 ·omega
 ·omega
theorem exec_live {σ σ' : Sv} {p r : Pk} {ok : Bool} (h : Executed (Puts σ.N) σ p r ok σ') : ∃ d e σ1, Did (Puts σ.N) σ p d e σ1 ∧ r = replyP σ p d e ∧ ok = true ∧ σ' = setSeat σ1 p.frm.toNat (doneL (σ.seat p.frm.toNat) p.life p.seq (writeS (replyP σ p d e))) := by
 obtain ⟨d, e, σ1, h1, h2⟩ := h
 rcases h2 with ⟨h5, _⟩ | ⟨_, h2⟩
 ·exact absurd h5 (did_not5 (fun x o ch hs => settled_puts5 hs) h1)
 ·exact ⟨d, e, σ1, h1, h2⟩
theorem j11 : judgeL noSeat 1 1 = 1 := by unfold judgeL noSeat; simp
theorem j12 (a : ByteArray) : judgeL ⟨1, 1, a⟩ 1 2 = 1 := by simp [judgeL]
theorem j13 (a : ByteArray) : judgeL ⟨1, 2, a⟩ 1 3 = 1 := by simp [judgeL]
theorem done_one (b : ByteArray) : doneL noSeat 1 1 b = ⟨1, 1, b⟩ := by unfold doneL; rw [if_pos j11]
theorem done_two (a b : ByteArray) : doneL ⟨1, 1, a⟩ 1 2 b = ⟨1, 2, b⟩ := by unfold doneL; rw [if_pos (j12 a)]
set_option maxRecDepth 100000 in
theorem right_al : al1.Right ∧ al2.Right ∧ al3.Right ∧ al4.Right := by decide +kernel
theorem alive_pure {M0 : List Rw} {σ1 σ2 σ3 σ4 : Sv} {r1 r2 r3 r4 : Pk} {k1 k2 k3 k4 : Bool} (hG : Good 99 M0) (hM0 : ∀ k, getR M0 k = afterK (boCh 1) [] k)
  (h1 : Handled (Puts 99) (srv0 99 1 1 M0) al1 r1 k1 σ1) (h2 : Handled (Puts σ1.N) σ1 al2 r2 k2 σ2) (h3 : Handled (Puts σ2.N) σ2 al3 r3 k3 σ3) (h4 : Handled (Puts σ3.N) σ3 al4 r4 k4 σ4) :
  (k1 = true ∧ r1.err = 0) ∧ (k2 = true ∧ r2.err = 17) ∧ (k3 = true ∧ r3.err = 0) ∧ (k4 = true ∧ r4.data = ⟨#[0, 97, 98, 99, 0]⟩) ∧ sureL σ4.M 7 = [] ∧ (objL σ4 7).length = 1 ∧ epN σ4.M 7 = 1 := by
 obtain ⟨R1, R2, R3, R4⟩ := right_al
 have hS0 := snd_nil
 obtain ⟨b1, b2, b3, b4⟩ := boot_ok (N := 99) snd_nil hG hM0
 have hl0 : M0.length ≤ 1 := len_after hG hM0
 have he0 : getR M0 (eK 7) = none := by rw [b4 _ (eK_ne_bK 7)]; rfl
 have hs0 : sureL M0 7 = [] := by rw [b1 7 (by decide)]; exact sure_nil0 7
 have x1 := exec_live (handled_new h1 rfl ⟨R1, rfl, rfl, by decide, by decide⟩ rfl (by show judgeL noSeat 1 1 = 1; exact j11))
 obtain ⟨d1, e1, τ1, hd1, hr1, hk1, hσ1⟩ := x1
 have hd1' := hd1
 unfold Did at hd1'
 rw [if_neg (by decide), if_neg (by decide), if_neg (by decide), if_pos (by decide), if_neg (by decide)] at hd1'
 have hep : epN M0 7 = 0 := by unfold epN; rw [he0]; rfl
 obtain ⟨_, hd1'⟩ := hd1'
 change (if al1.epoch < (epN M0 7 : Int) ∨ al1.epoch = 0 then _ else if (epN M0 7 : Int) = al1.epoch then _ else Settled _ (srv0 99 1 1 M0) 7 (Pgs.cutL (objL (srv0 99 1 1 M0) 7) (min 1024 1024)) (feCh al1) e1 τ1) at hd1'
 rw [hep, if_neg (by decide), if_neg (by decide)] at hd1'
 have ho0 : objL (srv0 99 1 1 M0) 7 = [] := hs0
 rw [ho0, show Pgs.cutL [] (min 1024 1024) = [] by decide +kernel] at hd1'
 obtain ⟨M1, hp1, hτ1⟩ := hd1'
 have hc1 : ChOk 7 (feCh al1) := ChOk.fe al1
 have hq1 := set_puts (by rfl) hc1 hp1
 rcases hq1 with ⟨_, _, hfull⟩ | ⟨he1, hG1, hM1⟩
 ·exfalso; change 99 < M0.length + 33 at hfull; omega
 subst he1
 have hS1 := set_ok b2 (by decide) (by rfl) hc1 hG1 hM1
 have hl1 : M1.length ≤ 34 := by
  have := len_after hG1 hM1
  change M1.length ≤ M0.length + (setCh M0 7 [] (feCh al1)).length at this
  have h4 : (setCh M0 7 [] (feCh al1)).length ≤ 33 := by
   unfold setCh
   have := Pgs.chgL_len 7 (sureL M0 7) []
   have := hc1.len
   rw [List.length_append]; omega
  omega
 have he1' : getR M1 (eK 7) = some (be4 1) := by
  rw [hS1.ep]
  show afterK [⟨eK 7, be4 1, false⟩] M0 (eK 7) = some (be4 1)
  unfold afterK hitL
  simp
 have hs1 : sureL M1 7 = [] := hS1.it
 have hcur1 : ∀ e : Int, cur M1 7 e = (1 == e) := fun e => by
  unfold cur epB epN
  rw [he1']
  simp only [Option.isSome_some, Option.getD_some, Bool.true_and]
  rw [numOf_be4 1 (by decide)]
  rfl
 have hσ1' : σ1 = setSeat (turned (srv0 99 1 1 M0) 7 0 M1) 0 (doneL noSeat 1 1 (writeS (replyP (srv0 99 1 1 M0) al1 d1 0))) := by rw [hσ1, hτ1]; rfl
 have x2 := exec_live (handled_new h2 (by rw [hσ1']; rfl) (by rw [hσ1']; exact ⟨R2, rfl, rfl, by decide, by decide⟩) (by rw [hσ1']; rfl) (by rw [hσ1']; show judgeL noSeat 1 1 = 1; exact j11))
 obtain ⟨d2, e2, τ2, hd2, hr2, hk2, hσ2⟩ := x2
 unfold Did at hd2
 rw [if_pos (by decide)] at hd2
 obtain ⟨_, he2, hτ2⟩ := hd2
 have hw2 : wrE σ1 al2 = 17 := by
  unfold wrE
  rw [if_pos]
  rw [hσ1']
  show cur M1 7 2 = false
  rw [hcur1]; rfl
 rw [hw2] at he2
 subst he2
 have hτ2' : τ2 = σ1 := by rw [hτ2]; unfold wrS; rw [if_neg (by rw [hw2]; decide)]
 have hσ2' : σ2 = setSeat σ1 17 (doneL (σ1.seat 17) 1 1 (writeS (replyP σ1 al2 d2 17))) := by rw [hσ2, hτ2']; rfl
 have hs17 : σ1.seat 17 = noSeat := by rw [hσ1']; rfl
 rw [hs17, done_one] at hσ2'
 have x3 := exec_live (handled_new h3 (by rw [hσ2', hσ1']; rfl) (by rw [hσ2', hσ1']; exact ⟨R3, rfl, rfl, by decide, by decide⟩) (by rw [hσ2', hσ1']; rfl) (by rw [hσ2']; exact j12 _))
 obtain ⟨d3, e3, τ3, hd3, hr3, hk3, hσ3⟩ := x3
 unfold Did at hd3
 rw [if_pos (by decide)] at hd3
 obtain ⟨_, he3, hτ3⟩ := hd3
 have hM2 : σ2.M = M1 := by rw [hσ2', hσ1']; rfl
 have hL2 : σ2.L = [] := by rw [hσ2', hσ1']; rfl
 have hN2 : σ2.N = 99 := by rw [hσ2', hσ1']; rfl
 have hwas : wasO σ2 al3 = [] := by
  unfold wasO objL
  rw [hM2, hL2]
  exact hs1
 have hnow : nowO σ2 al3 = Pgs.putL [] 3 [97, 98, 99] := by unfold nowO; rw [hwas]; rfl
 have hn1 : (Pgs.putL [] 3 [97, 98, 99]).length = 1 := by decide +kernel
 have hw3 : wrE σ2 al3 = 0 := by
  unfold wrE
  rw [if_neg, if_neg (by decide), if_neg]
  ·rintro ⟨_, hroom⟩
   have hm : moreI σ2 al3 ≤ 1 := by
    unfold moreI
    rw [hnow, hwas]
    have := fresh_le σ2.M al3.file.toNat (Pgs.putL [] 3 [97, 98, 99])
    omega
   have hr : 1 ≤ roomI σ2 := by
    unfold roomI sumF
    rw [hM2, hL2, hN2]
    simp only [List.map_nil, List.sum_nil]
    omega
   omega
  ·rw [hM2]
   show ¬ cur M1 7 1 = false
   rw [hcur1]; decide
 rw [hw3] at he3
 subst he3
 have hτ3' : τ3 = { σ2 with L := putLo [] 7 (Pgs.putL [] 3 [97, 98, 99]) } := by
  rw [hτ3]
  unfold wrS
  rw [if_pos hw3, hnow, hL2]
  rfl
 have hσ3' : σ3 = setSeat { σ2 with L := putLo [] 7 (Pgs.putL [] 3 [97, 98, 99]) } 17 (doneL (σ2.seat 17) 1 2 (writeS (replyP σ2 al3 d3 0))) := by rw [hσ3, hτ3']; rfl
 have hj2 : σ2.seat 17 = ⟨1, 1, writeS (replyP σ1 al2 d2 17)⟩ := by rw [hσ2']; rfl
 rw [hj2, done_two] at hσ3'
 have hb2 : σ2.boot = 1 ∧ σ2.me = 1 ∧ σ2.up = true := by rw [hσ2', hσ1']; exact ⟨rfl, rfl, rfl⟩
 have x4 := exec_live (handled_new h4 (by rw [hσ3']; exact hb2.2.2) (by rw [hσ3']; exact ⟨R4, rfl, hb2.2.1.symm, by decide, by decide⟩) (by rw [hσ3']; exact hb2.1.symm) (by rw [hσ3']; exact j13 _))
 obtain ⟨d4, e4, τ4, hd4, hr4, hk4, hσ4⟩ := x4
 unfold Did at hd4
 rw [if_neg (by decide), if_pos (by decide)] at hd4
 obtain ⟨hd4, he4, hτ4⟩ := hd4
 have hM3 : σ3.M = M1 := by rw [hσ3']; exact hM2
 have ho3 : objL σ3 7 = Pgs.putL [] 3 [97, 98, 99] := by
  rw [hσ3']
  show (lookL (putLo [] 7 (Pgs.putL [] 3 [97, 98, 99])) 7).getD _ = _
  rw [look_put_same, Option.getD_some]
 have hrE : rdE σ3 al4 = 0 := by
  unfold rdE
  rw [if_neg, if_neg (by decide)]
  rw [hM3]
  show ¬ cur M1 7 1 = false
  rw [hcur1]; decide
 have hdd : d4 = [0, 97, 98, 99, 0] := by
  rw [hd4]
  unfold rdD
  rw [if_pos hrE]
  show Pgs.bytesL (objL σ3 7) 2 5 = _
  rw [ho3]
  decide +kernel
 have hM4 : σ4.M = M1 := by rw [hσ4, hτ4]; exact hM3
 have ho4 : objL σ4 7 = Pgs.putL [] 3 [97, 98, 99] := by rw [hσ4, hτ4]; exact ho3
 refine ⟨⟨hk1, by rw [hr1]; rfl⟩, ⟨hk2, by rw [hr2]; rfl⟩, ⟨hk3, by rw [hr3]; rfl⟩, ⟨hk4, ?_⟩, by rw [hM4]; exact hs1, by rw [ho4]; exact hn1, ?_⟩
 ·rw [hr4, hdd]; rfl
 ·rw [hM4]
  unfold epN
  rw [he1']
  exact numOf_be4 1 (by decide)
end Go.Proofs.YtmelaiefbpdifaaGreatDoor.Srv
