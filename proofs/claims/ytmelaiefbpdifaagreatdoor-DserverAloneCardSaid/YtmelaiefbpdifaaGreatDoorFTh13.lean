/- What a commit leaves of a server's rows: epochs, objects. -/
import Derived.Test.YtmelaiefbpdifaaGreatDoorFSt14
namespace Go.Proofs.YtmelaiefbpdifaaGreatDoor.Srv
open Go.RowKit Go.Maps
open Pgs (Pg keyB headB find allZ chgL ldL ldOk Holds chgL_mem chgL_len hit_other keyB_eq after_page after_other pre_key pre_two pre_iff)
theorem afterK_left {a b : List Ch} {M : List Rw} {k : List UInt8} (h : hitL b k = none) : afterK (a ++ b) M k = afterK a M k := by
 unfold afterK
 have e : hitL (a ++ b) k = (hitL a k).or (hitL b k) := by unfold hitL; exact List.find?_append
 rw [e, h, Option.or_none]
theorem afterK_right {a b : List Ch} {M : List Rw} {k : List UInt8} (h : hitL a k = none) : afterK (a ++ b) M k = afterK b M k := by
 unfold afterK
 have e : hitL (a ++ b) k = (hitL a k).or (hitL b k) := by unfold hitL; exact List.find?_append
 rw [e, h, Option.none_or]
theorem keyB_ne_eK (x n y : Nat) : keyB x n ≠ eK y := fun h => by
 have := congrArg (fun l => l.getD 0 0) h
 exact absurd this (by decide : ¬ (80 : UInt8) = 69)
theorem keyB_ne_bK (x n : Nat) : keyB x n ≠ bK := fun h => by
 have := congrArg (fun l => l.getD 0 0) h
 exact absurd this (by decide : ¬ (80 : UInt8) = 66)
theorem eK_ne_bK (x : Nat) : eK x ≠ bK := fun h => by
 have := congrArg (fun l => l.getD 0 0) h
 exact absurd this (by decide : ¬ (69 : UInt8) = 66)
theorem eK_inj {x y : Nat} (hx : x < 4294967296) (hy : y < 4294967296) (h : eK x = eK y) : x = y := by
 have h1 : be4 x = be4 y := by unfold eK at h; injection h
 have h2 := congrArg numOf h1
 rwa [numOf_be4 x hx, numOf_be4 y hy] at h2
def ChOk (x : Nat) (ch : List Ch) : Prop := ch = [] ∨ ∃ v g, ch = [⟨eK x, v, g⟩] ∧ v.length ≤ 200 ∧ (g = true → v = [])
theorem ChOk.nil (x : Nat) : ChOk x [] := .inl rfl
theorem ChOk.fe (p : Pk) : ChOk p.file.toNat (feCh p) := .inr ⟨_, _, rfl, by rw [be4_length]; decide, fun h => by cases h⟩
theorem ChOk.fr (p : Pk) : ChOk p.file.toNat (frCh p) := .inr ⟨_, _, rfl, by simp, fun _ => rfl⟩
theorem ChOk.hit {x : Nat} {ch : List Ch} (h : ChOk x ch) {k : List UInt8} (hk : k ≠ eK x) : hitL ch k = none := by
 rcases h with rfl | ⟨v, g, rfl, _⟩
 ·rfl
 ·unfold hitL
  rw [List.find?_cons]
  have : (eK x == k) = false := by rw [beq_eq_false_iff_ne]; exact fun e => hk e.symm
  simp [this]
theorem ChOk.len {x : Nat} {ch : List Ch} (h : ChOk x ch) : ch.length ≤ 1 := by
 rcases h with rfl | ⟨v, g, rfl, _⟩ <;> simp
theorem chg_hit_eK (x y : Nat) (o p : List Pg) : hitL (chgL x o p) (eK y) = none := hit_other (headB x) _ _ _ 32 fun n _ e => keyB_ne_eK x n y (by rw [keyB_eq]; exact e.symm)
theorem set_fit {M : List Rw} {x : Nat} {o : List Pg} {ch : List Ch} (ho : Pgs.right o = true) (hc : ChOk x ch) : FitL (setCh M x o ch) := by
 unfold setCh
 obtain ⟨h1, h2⟩ := chgL_mem (x := x) (o := sureL M x) ho
 have h40 := chgL_len x (sureL M x) o
 have hch : ∀ c ∈ ch, c.key = eK x ∧ c.val.length ≤ 200 ∧ (c.gone = true → c.val = []) := fun c hcm => by
  rcases hc with rfl | ⟨v, g, rfl, q1, q2⟩
  ·cases hcm
  ·simp only [List.mem_singleton] at hcm
   subst hcm
   exact ⟨rfl, q1, q2⟩
 refine fits_to ⟨?_, List.pairwise_append.2 ⟨h2, ?_, fun a ha b hb => ?_⟩, fun c hcm => ?_, fun c hcm => ?_⟩
 ·have := hc.len; rw [List.length_append]; omega
 ·rcases hc with rfl | ⟨v, g, rfl, _⟩
  ·exact List.Pairwise.nil
  ·exact List.pairwise_singleton _ _
 ·obtain ⟨n, _, e, _⟩ := h1 a ha
  rw [e, (hch b hb).1]
  exact keyB_ne_eK x n x
 ·rcases List.mem_append.1 hcm with hcm | hcm
  ·obtain ⟨n, _, e, q, _⟩ := h1 c hcm
   rw [e, Pgs.keyB_length]
   exact ⟨by decide, by decide, by omega⟩
  ·obtain ⟨e, q, _⟩ := hch c hcm
   rw [e, eK_length]
   exact ⟨by decide, by decide, q⟩
 ·rcases List.mem_append.1 hcm with hcm | hcm
  ·obtain ⟨n, _, e, _, q⟩ := h1 c hcm
   exact q
  ·exact (hch c hcm).2.2
theorem set_puts {N : Nat} {M M' : List Rw} {x : Nat} {o : List Pg} {ch : List Ch} {e : Int} (ho : Pgs.right o = true) (hc : ChOk x ch) (h : Puts N M (setCh M x o ch) e M') :
  (e = 6 ∧ M' = M ∧ N < M.length + 33) ∨ (e = 0 ∧ Good N M' ∧ ∀ k, getR M' k = afterK (setCh M x o ch) M k) := by
 have hg := Pgs.growth_le M (newsL M (setCh M x o ch))
 have hl : (newsL M (setCh M x o ch)).length ≤ 33 := by
  have h1 := List.length_filter_le (isNews M) (setCh M x o ch)
  have h2 := chgL_len x (sureL M x) o
  have h3 := hc.len
  have h4 : (setCh M x o ch).length = (chgL x (sureL M x) o).length + ch.length := by unfold setCh; exact List.length_append
  show (List.filter (isNews M) (setCh M x o ch)).length ≤ 33
  omega
 rcases h with ⟨h, _⟩ | ⟨_, h, rfl, rfl⟩ | ⟨_, _, h1, h2, h3⟩
 ·exact absurd (set_fit ho hc) h
 ·exact .inl ⟨rfl, rfl, by omega⟩
 ·exact .inr ⟨h1, h2, h3⟩
def Snd (M : List Rw) : Prop := ∀ x, x < 4294967296 → Holds M x (sureL M x)
theorem pre_ne_eK {x z : Nat} {k : List UInt8} (h : preK (headB x) k = true) : k ≠ eK z := fun e => by
 have h1 := (pre_iff.1 h).2
 rw [e] at h1
 have := congrArg (fun l => l.getD 0 0) h1
 exact absurd this (by decide : ¬ (69 : UInt8) = 80)
theorem pre_ne_bK {x : Nat} {k : List UInt8} (h : preK (headB x) k = true) : k ≠ bK := fun e => by
 have h1 := (pre_iff.1 h).1
 rw [e, Pgs.headB_length] at h1
 exact absurd h1 (by decide)
structure SetOk (M M' : List Rw) (x : Nat) (o : List Pg) (ch : List Ch) : Prop where
 it : sureL M' x = o
 other : ∀ y, y < 4294967296 → y ≠ x → sureL M' y = sureL M y
 snd : Snd M'
 ep : getR M' (eK x) = afterK ch M (eK x)
 rest : ∀ k, k ≠ eK x → (∀ n, n < 32 → k ≠ keyB x n) → getR M' k = getR M k
theorem set_ok {N : Nat} {M M' : List Rw} {x : Nat} {o : List Pg} {ch : List Ch} (hS : Snd M) (hx : x < 4294967296) (ho : Pgs.right o = true) (hc : ChOk x ch) (hM' : Good N M') (h : ∀ k, getR M' k = afterK (setCh M x o ch) M k) : SetOk M M' x o ch := by
 have hM : ∀ k, k ≠ eK x → getR M' k = afterK (chgL x (sureL M x) o) M k := fun k hk => by
  rw [h k]
  exact afterK_left (hc.hit hk)
 have hX : Holds M' x o := by
  refine ⟨fun n hn => ?_, fun k hk hne => ?_⟩
  ·rw [hM _ (keyB_ne_eK x n x), after_page (sure_right M x) ho hn]
   by_cases h1 : find o n = find (sureL M x) n
   ·rw [if_pos h1, (hS x hx).pages n hn, h1]
   ·rw [if_neg h1]
  ·rw [hM _ (pre_ne_eK hk), after_other hne]
   exact (hS x hx).only k hk hne
 have hY : ∀ y, y < 4294967296 → y ≠ x → Holds M' y (sureL M y) := fun y hy hyx => by
  have hne : ∀ k, preK (headB y) k = true → ∀ n, n < 32 → k ≠ keyB x n := fun k hk n _ e => hyx (pre_two hx hy (by rw [e]; exact pre_key x n) hk).symm
  refine ⟨fun n hn => ?_, fun k hk hnn => ?_⟩
  ·rw [hM _ (keyB_ne_eK y n x), after_other (hne _ (pre_key y n))]
   exact (hS y hy).pages n hn
  ·rw [hM _ (pre_ne_eK hk), after_other (hne k hk)]
   exact (hS y hy).only k hk hnn
 have e1 : sureL M' x = o := (hX.load hM' ho).2
 have e2 : ∀ y, y < 4294967296 → y ≠ x → sureL M' y = sureL M y := fun y hy hyx => ((hY y hy hyx).load hM' (sure_right M y)).2
 refine ⟨e1, e2, fun y hy => ?_, ?_, fun k hk hne => ?_⟩
 ·by_cases hyx : y = x
  ·subst hyx
   rw [e1]; exact hX
  ·rw [e2 y hy hyx]; exact hY y hy hyx
 ·rw [h]
  exact afterK_right (chg_hit_eK x x _ _)
 ·rw [hM k hk]
  exact after_other hne
theorem sure_nil0 (x : Nat) : sureL [] x = [] := rfl
theorem snd_nil : Snd [] := fun x _ => by rw [sure_nil0]; exact Pgs.holds_nil x
theorem boot_ok {N : Nat} {M M' : List Rw} {b : Nat} (hS : Snd M) (hM' : Good N M') (h : ∀ k, getR M' k = afterK (boCh b) M k) : (∀ y, y < 4294967296 → sureL M' y = sureL M y) ∧ Snd M' ∧ getR M' bK = some (be4 b) ∧ ∀ k, k ≠ bK → getR M' k = getR M k := by
 have hr : ∀ k, k ≠ bK → getR M' k = getR M k := fun k hk => by
  rw [h k]
  unfold afterK boCh hitL
  rw [List.find?_cons]
  have : (bK == k) = false := by rw [beq_eq_false_iff_ne]; exact fun e => hk e.symm
  simp [this]
 have hY : ∀ y, y < 4294967296 → Holds M' y (sureL M y) := fun y hy =>
  ⟨fun n hn => by rw [hr _ (keyB_ne_bK y n)]; exact (hS y hy).pages n hn, fun k hk hnn => by rw [hr _ (pre_ne_bK hk)]; exact (hS y hy).only k hk hnn⟩
 have e2 : ∀ y, y < 4294967296 → sureL M' y = sureL M y := fun y hy => ((hY y hy).load hM' (sure_right M y)).2
 refine ⟨e2, fun y hy => by rw [e2 y hy]; exact hY y hy, ?_, hr⟩
 rw [h bK]
 unfold afterK boCh hitL
 simp
theorem boot_fit (b : Nat) : FitL (boCh b) := fits_to ⟨by simp [boCh], by simp [boCh], by simp [boCh, bK, be4_length], by simp [boCh]⟩
theorem boot_puts {N : Nat} {M M' : List Rw} {b : Nat} {e : Int} (h : Puts N M (boCh b) e M') : (e = 6 ∧ M' = M ∧ N < M.length + 1) ∨ (e = 0 ∧ Good N M' ∧ ∀ k, getR M' k = afterK (boCh b) M k) := by
 have hg := Pgs.growth_le M (newsL M (boCh b))
 have hl : (newsL M (boCh b)).length ≤ 1 := List.length_filter_le (isNews M) (boCh b)
 rcases h with ⟨h, _⟩ | ⟨_, h, rfl, rfl⟩ | ⟨_, _, h1, h2, h3⟩
 ·exact absurd (boot_fit b) h
 ·exact .inl ⟨rfl, rfl, by omega⟩
 ·exact .inr ⟨h1, h2, h3⟩
end Go.Proofs.YtmelaiefbpdifaaGreatDoor.Srv
