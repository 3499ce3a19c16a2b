/- Whether a list may be: the document's. -/
import Derived.Test.YthclpefomhakdaaVal11
import Derived.Test.YthclpefomhakdaaFind11
namespace Go.Proofs.Ythclpefomhakdaa
open Go.RowKit

/-- The first n are right, as far as the document has looked. -/
structure RInv (l : List Opn) (n : Nat) : Prop where
  ok : ∀ x ∈ l.take n, validO x ∧ mineN l x.client ≤ 4
  rise : (l.take n).Pairwise keyLt
  calm : (l.take n).Pairwise (fun a b => ¬ clashO a b)
theorem RInv.zero (l : List Opn) : RInv l 0 := ⟨by simp, by simp, by simp⟩
theorem RInv.succ {l : List Opn} {n : Nat} {x : Opn} (h : RInv l n) (hx : l[n]? = some x) (v : validO x) (m : mineN l x.client ≤ 4) (k : ∀ y, (l.take n).getLast? = some y → keyLt y x) (cl : ∀ y ∈ l.take n, ¬ clashO y x) : RInv l (n + 1) := by
  have hk := last_all h.rise k
  have e := get_snoc hx
  refine ⟨fun y hy => ?_, ?_, ?_⟩
  · rw [e, List.mem_append, List.mem_singleton] at hy
    rcases hy with hy | rfl
    · exact h.ok y hy
    · exact ⟨v, m⟩
  · rw [e, List.pairwise_append]
    exact ⟨h.rise, by simp, fun y hy z hz => by rw [List.mem_singleton] at hz; subst hz; exact hk y hy⟩
  · rw [e, List.pairwise_append]
    exact ⟨h.calm, by simp, fun y hy z hz => by rw [List.mem_singleton] at hz; subst hz; exact cl y hy⟩
theorem RInv.done {l : List Opn} {n : Nat} (h : RInv l n) (hn : l.length ≤ n) (h12 : l.length ≤ 12) : RightP l := by
  obtain ⟨a, b, c⟩ := h
  rw [List.take_of_length_le hn] at a b c
  exact ⟨h12, fun x hx => (a x hx).1, fun x hx => (a x hx).2, b, c⟩
theorem take_last {l : List Opn} {m : Nat} {y : Opn} (h : l[m]? = some y) : (l.take (m + 1)).getLast? = some y := by
  rw [get_snoc h, List.getLast?_concat]
/-- What the document has found of one element. -/
structure RGood (l : List Opn) (n : Nat) (x : Opn) : Prop where
  ok : validO x
  few : mineN l x.client ≤ 4
  last : ∀ y, (l.take n).getLast? = some y → keyLt y x
theorem not_valid {l : List Opn} {x : Opn} (hx : x ∈ l) (h : ¬ validO x) : ¬ RightP l := fun r => h (r.ok x hx)
theorem not_few {l : List Opn} {x : Opn} (hx : x ∈ l) (h : 4 < mineN l x.client) : ¬ RightP l := fun r => by have := r.few x hx; omega
theorem not_rise {l : List Opn} {m : Nat} {x y : Opn} (hy : l[m]? = some y) (hx : l[m + 1]? = some x) (h : ¬ keyLt y x) : ¬ RightP l := fun r => by
  obtain ⟨h1, e1⟩ := List.getElem?_eq_some_iff.1 hy
  obtain ⟨h2, e2⟩ := List.getElem?_eq_some_iff.1 hx
  have := (List.pairwise_iff_getElem.1 r.rise) m (m + 1) h1 h2 (by omega)
  rw [e1, e2] at this
  exact h this
theorem not_calm {l : List Opn} {m n : Nat} {x y : Opn} (hy : l[m]? = some y) (hx : l[n]? = some x) (hmn : m < n) (h : clashO y x) : ¬ RightP l := fun r => by
  obtain ⟨h1, e1⟩ := List.getElem?_eq_some_iff.1 hy
  obtain ⟨h2, e2⟩ := List.getElem?_eq_some_iff.1 hx
  have := (List.pairwise_iff_getElem.1 r.calm) m n h1 h2 hmn
  rw [e1, e2] at this
  exact this h
theorem wrap_pred (m : Nat) (h : m ≤ 1048576) : IntKind.i64.wrap (((m + 1 : Nat) : Int) - 1) = (m : Int) := by simp only [IntKind.wrap, IntKind.bits, IntKind.signed]; simp; omega

set_option maxRecDepth 100000 in
set_option maxHeartbeats 8000000 in
theorem rright_any (w : World) (A : Option Addr) (c : Nat) (l : List Opn) (hb : Els opE 5 w A l) (hl : l.length ≤ 9223372036854775807) :
    Calls Try.prog 14 #[.slice A l.length c] w fun e w' => e = .returned (.bool (decide (RightP l))) ∧ Only [] w w' := by
  have hlI : (l.length : Int) ≤ 9223372036854775807 := by omega
  obtain ⟨R, hR⟩ : ∃ R, R = decide (RightP l) := ⟨_, rfl⟩
  rw [← hR]
  have hyes : RightP l → R = true := fun h => by rw [hR]; exact decide_eq_true h
  have hno : ¬ RightP l → R = false := fun h => by rw [hR]; exact decide_eq_false h
  replace hyes := Lib.hid hyes
  replace hno := Lib.hid hno
  clear hR
  by_cases h12 : (12 : Int) < (l.length : Int)
  · have d12 : decide ((12 : Int) < (l.length : Int)) = true := decide_eq_true h12
    obtain rfl := hno.out (fun h => by have := h.len; omega)
    go_enter Try.func14, Try.ntmps14
    go_wp2
    go_ret
    exact ⟨rfl, Only.refl _ _⟩
  have d12 : decide ((12 : Int) < (l.length : Int)) = false := decide_eq_false h12
  have hlen : l.length ≤ 12 := by omega
  have hM := fun W (k : Only [] w W) a => mine_any W A c l a (hb.kept k (by simp)) hl
  replace hM := Lib.hid hM
  go_enter Try.func14, Try.ntmps14
  go_wp2_with fail
  go_loopw [3] (fun i wr => ∃ n : Nat, n ≤ l.length ∧ i = .int .i64 n ∧ Hid (RInv l n) ∧ Only [] w wr) (fun i _ => l.length - (intOf i).toNat)
  case atStart => exact ⟨0, Nat.zero_le _, rfl, RInv.zero l, Only.refl _ _⟩
  case round =>
    obtain ⟨n, hn, rfl, hI, hk⟩ := hrel
    by_cases hlt : n < l.length
    rotate_left
    · obtain rfl := hyes.out (hI.out.done (by omega) hlen)
      go_wp2
      go_ret
      exact ⟨rfl, hk⟩
    obtain ⟨g, o, rfl, hg, hat⟩ := hb.get hlt
    have hatk := hat.kept hk (by simp)
    have hx : l[n]? = some l[n] := List.getElem?_eq_getElem hlt
    have hxm : l[n] ∈ l := List.getElem_mem hlt
    have hc := fun W (k : Only [] wr W) => ops_at (hatk.kept k (by simp)) hlt
    have hO := fun W => one_any W l[n]
    generalize l[n] = x at *
    have hMx := fun W (k : Only [] w W) => hM.out W k x.client
    by_cases hv : validO x
    rotate_left
    · have hres := hno.out (not_valid hxm hv)
      subst hres
      rw [decide_eq_false hv] at hO
      obtain ⟨x0, x1, x2, x3, x4⟩ := x
      unfold opV at hO
      simp only at hO hc
      have KP : Hid (∀ w', Only [] wr w' → w'.cell? ⟨g, o + n * 5, none⟩ = some (.int .u32 x0) ∧ w'.cell? ⟨g, o + n * 5 + 1, none⟩ = some (.int .u32 x1) ∧ w'.cell? ⟨g, o + n * 5 + 2, none⟩ = some (.int .u32 x2) ∧ w'.cell? ⟨g, o + n * 5 + 3, none⟩ = some (.int .u32 x3) ∧ w'.cell? ⟨g, o + n * 5 + 4, none⟩ = some (.int .u32 (x4 : Int))) := fun w' kk => hc w' kk
      replace hO := Lib.hid hO
      clear hMx hc hatk hat hx hxm hv hI
      go_wp2_with fail
      refine wp_region_held_drew (S := fun w' => w'.cell? ⟨g, o + n * 5, none⟩ = some (.int .u32 x0) ∧ w'.cell? ⟨g, o + n * 5 + 1, none⟩ = some (.int .u32 x1) ∧ w'.cell? ⟨g, o + n * 5 + 2, none⟩ = some (.int .u32 x2) ∧ w'.cell? ⟨g, o + n * 5 + 3, none⟩ = some (.int .u32 x3) ∧ w'.cell? ⟨g, o + n * 5 + 4, none⟩ = some (.int .u32 (x4 : Int))) (by kernel_rfl) (KP.out _ (Only.refl _ _).drew) (fun hHeld => ?_)
      refine held_take 0 (.slice (some ⟨g, o, none⟩) l.length c) rfl (by kernel_rfl) (by kernel_rfl) (by kernel_rfl) (fun _ _ _ h => h) hHeld (Or.inl ⟨by rfl, fun w' hSw => by (try dsimp only at hSw); (try subst hSw); go_simp⟩) ?_
      simp only [Act.put, List.setIfInBounds_toArray, List.set_cons_zero, List.set_cons_succ]
      refine held_take 1 (.int .i64 n) rfl (by kernel_rfl) (by kernel_rfl) (by kernel_rfl) (fun _ _ _ h => h) hHeld (Or.inl ⟨by rfl, fun w' hSw => by (try dsimp only at hSw); (try subst hSw); go_simp⟩) ?_
      simp only [Act.put, List.setIfInBounds_toArray, List.set_cons_zero, List.set_cons_succ]
      refine held_take 2 (.pointer (some ⟨g, o + n * 5, none⟩)) rfl (by kernel_rfl) (by kernel_rfl) (by kernel_rfl) (fun _ _ _ h => h) hHeld (Or.inl ⟨by rfl, fun w' hSw => by (try dsimp only at hSw); (try subst hSw); go_simp⟩) ?_
      simp only [Act.put, List.setIfInBounds_toArray, List.set_cons_zero, List.set_cons_succ]
      refine held_take 3 (.agg #[.int .u32 x0, .int .u32 x1, .int .u32 x2, .int .u32 x3, .int .u32 (x4 : Int)]) rfl (by kernel_rfl) (by kernel_rfl) (by kernel_rfl) (fun _ _ _ h => h) hHeld (Or.inl ⟨by rfl, fun w' hSw => by (try dsimp only at hSw); (try subst hSw); go_simp⟩) ?_
      simp only [Act.put, List.setIfInBounds_toArray, List.set_cons_zero, List.set_cons_succ]
      refine held_step 4 rfl (by kernel_rfl) (fun K hK => ?_)
      go_simp
      refine (hO.out _).mono ?_; rintro e w3 ⟨rfl, k3⟩; replace k3 := k3.undrew
      go_wp2_with fail
      refine hK.out _ _ (KP.out _ k3) (fun hHeld => ?_)
      clear hK K
      refine held_take 5 (.bool true) rfl (by kernel_rfl) (by kernel_rfl) (by kernel_rfl) (fun _ _ _ h => h) hHeld (Or.inl ⟨by rfl, fun w' hSw => by (try dsimp only at hSw); (try subst hSw); go_simp⟩) ?_
      simp only [Act.put, List.setIfInBounds_toArray, List.set_cons_zero, List.set_cons_succ]
      refine held_take 6 (.bool true) rfl (by kernel_rfl) (by kernel_rfl) (by kernel_rfl) (fun _ _ _ h => h) hHeld (Or.inl ⟨by rfl, fun w' hSw => by (try dsimp only at hSw); (try subst hSw); go_simp⟩) ?_
      simp only [Act.put, List.setIfInBounds_toArray, List.set_cons_zero, List.set_cons_succ]
      refine held_take 7 undef rfl (by kernel_rfl) (by kernel_rfl) (by kernel_rfl) (fun _ _ _ h => h) hHeld (Or.inr ⟨by rfl, rfl⟩) ?_
      simp only [Act.put, List.setIfInBounds_toArray, List.set_cons_zero, List.set_cons_succ]
      refine held_take 8 undef rfl (by kernel_rfl) (by kernel_rfl) (by kernel_rfl) (fun _ _ _ h => h) hHeld (Or.inr ⟨by rfl, rfl⟩) ?_
      simp only [Act.put, List.setIfInBounds_toArray, List.set_cons_zero, List.set_cons_succ]
      refine held_take 9 undef rfl (by kernel_rfl) (by kernel_rfl) (by kernel_rfl) (fun _ _ _ h => h) hHeld (Or.inr ⟨by rfl, rfl⟩) ?_
      simp only [Act.put, List.setIfInBounds_toArray, List.set_cons_zero, List.set_cons_succ]
      refine held_take 10 undef rfl (by kernel_rfl) (by kernel_rfl) (by kernel_rfl) (fun _ _ _ h => h) hHeld (Or.inr ⟨by rfl, rfl⟩) ?_
      simp only [Act.put, List.setIfInBounds_toArray, List.set_cons_zero, List.set_cons_succ]
      refine held_take 11 undef rfl (by kernel_rfl) (by kernel_rfl) (by kernel_rfl) (fun _ _ _ h => h) hHeld (Or.inr ⟨by rfl, rfl⟩) ?_
      simp only [Act.put, List.setIfInBounds_toArray, List.set_cons_zero, List.set_cons_succ]
      refine held_take 12 undef rfl (by kernel_rfl) (by kernel_rfl) (by kernel_rfl) (fun _ _ _ h => h) hHeld (Or.inr ⟨by rfl, rfl⟩) ?_
      simp only [Act.put, List.setIfInBounds_toArray, List.set_cons_zero, List.set_cons_succ]
      refine held_take 13 undef rfl (by kernel_rfl) (by kernel_rfl) (by kernel_rfl) (fun _ _ _ h => h) hHeld (Or.inr ⟨by rfl, rfl⟩) ?_
      simp only [Act.put, List.setIfInBounds_toArray, List.set_cons_zero, List.set_cons_succ]
      refine held_take 14 undef rfl (by kernel_rfl) (by kernel_rfl) (by kernel_rfl) (fun _ _ _ h => h) hHeld (Or.inr ⟨by rfl, rfl⟩) ?_
      simp only [Act.put, List.setIfInBounds_toArray, List.set_cons_zero, List.set_cons_succ]
      refine held_take 15 (.bool true) rfl (by kernel_rfl) (by kernel_rfl) (by kernel_rfl) (fun _ _ _ h => h) hHeld (Or.inl ⟨by rfl, fun w' hSw => by (try dsimp only at hSw); (try subst hSw); go_simp⟩) ?_
      simp only [Act.put, List.setIfInBounds_toArray, List.set_cons_zero, List.set_cons_succ]
      refine held_take 16 (.bool true) rfl (by kernel_rfl) (by kernel_rfl) (by kernel_rfl) (fun _ _ _ h => h) hHeld (Or.inl ⟨by rfl, fun w' hSw => by (try dsimp only at hSw); (try subst hSw); go_simp⟩) ?_
      simp only [Act.put, List.setIfInBounds_toArray, List.set_cons_zero, List.set_cons_succ]
      refine held_take 17 undef rfl (by kernel_rfl) (by kernel_rfl) (by kernel_rfl) (fun _ _ _ h => h) hHeld (Or.inr ⟨by rfl, rfl⟩) ?_
      simp only [Act.put, List.setIfInBounds_toArray, List.set_cons_zero, List.set_cons_succ]
      refine held_take 18 undef rfl (by kernel_rfl) (by kernel_rfl) (by kernel_rfl) (fun _ _ _ h => h) hHeld (Or.inr ⟨by rfl, rfl⟩) ?_
      simp only [Act.put, List.setIfInBounds_toArray, List.set_cons_zero, List.set_cons_succ]
      refine held_take 19 undef rfl (by kernel_rfl) (by kernel_rfl) (by kernel_rfl) (fun _ _ _ h => h) hHeld (Or.inr ⟨by rfl, rfl⟩) ?_
      simp only [Act.put, List.setIfInBounds_toArray, List.set_cons_zero, List.set_cons_succ]
      refine held_take 20 undef rfl (by kernel_rfl) (by kernel_rfl) (by kernel_rfl) (fun _ _ _ h => h) hHeld (Or.inr ⟨by rfl, rfl⟩) ?_
      simp only [Act.put, List.setIfInBounds_toArray, List.set_cons_zero, List.set_cons_succ]
      refine held_take 21 undef rfl (by kernel_rfl) (by kernel_rfl) (by kernel_rfl) (fun _ _ _ h => h) hHeld (Or.inr ⟨by rfl, rfl⟩) ?_
      simp only [Act.put, List.setIfInBounds_toArray, List.set_cons_zero, List.set_cons_succ]
      refine held_take 22 undef rfl (by kernel_rfl) (by kernel_rfl) (by kernel_rfl) (fun _ _ _ h => h) hHeld (Or.inr ⟨by rfl, rfl⟩) ?_
      simp only [Act.put, List.setIfInBounds_toArray, List.set_cons_zero, List.set_cons_succ]
      refine held_take 23 undef rfl (by kernel_rfl) (by kernel_rfl) (by kernel_rfl) (fun _ _ _ h => h) hHeld (Or.inr ⟨by rfl, rfl⟩) ?_
      simp only [Act.put, List.setIfInBounds_toArray, List.set_cons_zero, List.set_cons_succ]
      refine held_take 24 undef rfl (by kernel_rfl) (by kernel_rfl) (by kernel_rfl) (fun _ _ _ h => h) hHeld (Or.inr ⟨by rfl, rfl⟩) ?_
      simp only [Act.put, List.setIfInBounds_toArray, List.set_cons_zero, List.set_cons_succ]
      refine held_take 25 undef rfl (by kernel_rfl) (by kernel_rfl) (by kernel_rfl) (fun _ _ _ h => h) hHeld (Or.inr ⟨by rfl, rfl⟩) ?_
      simp only [Act.put, List.setIfInBounds_toArray, List.set_cons_zero, List.set_cons_succ]
      refine held_take 26 undef rfl (by kernel_rfl) (by kernel_rfl) (by kernel_rfl) (fun _ _ _ h => h) hHeld (Or.inr ⟨by rfl, rfl⟩) ?_
      simp only [Act.put, List.setIfInBounds_toArray, List.set_cons_zero, List.set_cons_succ]
      refine held_take 27 undef rfl (by kernel_rfl) (by kernel_rfl) (by kernel_rfl) (fun _ _ _ h => h) hHeld (Or.inr ⟨by rfl, rfl⟩) ?_
      simp only [Act.put, List.setIfInBounds_toArray, List.set_cons_zero, List.set_cons_succ]
      refine held_take 28 undef rfl (by kernel_rfl) (by kernel_rfl) (by kernel_rfl) (fun _ _ _ h => h) hHeld (Or.inr ⟨by rfl, rfl⟩) ?_
      simp only [Act.put, List.setIfInBounds_toArray, List.set_cons_zero, List.set_cons_succ]
      refine held_take 29 undef rfl (by kernel_rfl) (by kernel_rfl) (by kernel_rfl) (fun _ _ _ h => h) hHeld (Or.inr ⟨by rfl, rfl⟩) ?_
      simp only [Act.put, List.setIfInBounds_toArray, List.set_cons_zero, List.set_cons_succ]
      refine held_take 30 undef rfl (by kernel_rfl) (by kernel_rfl) (by kernel_rfl) (fun _ _ _ h => h) hHeld (Or.inr ⟨by rfl, rfl⟩) ?_
      simp only [Act.put, List.setIfInBounds_toArray, List.set_cons_zero, List.set_cons_succ]
      refine held_take 31 undef rfl (by kernel_rfl) (by kernel_rfl) (by kernel_rfl) (fun _ _ _ h => h) hHeld (Or.inr ⟨by rfl, rfl⟩) ?_
      simp only [Act.put, List.setIfInBounds_toArray, List.set_cons_zero, List.set_cons_succ]
      refine held_take 32 (.bool true) rfl (by kernel_rfl) (by kernel_rfl) (by kernel_rfl) (fun _ _ _ h => h) hHeld (Or.inl ⟨by rfl, fun w' hSw => by (try dsimp only at hSw); (try subst hSw); go_simp⟩) ?_
      simp only [Act.put, List.setIfInBounds_toArray, List.set_cons_zero, List.set_cons_succ]
      refine wpAnyH_done (by kernel_rfl) ?_ _
      clear hHeld
      go_wp2
      go_ret
      exact ⟨rfl, hk.trans k3⟩
    rw [decide_eq_true hv] at hO
    by_cases hm4 : 4 < mineN l x.client
    · have hres := hno.out (not_few hxm hm4)
      subst hres
      have d4 : decide ((4 : Int) < (mineN l x.client : Int)) = true := decide_eq_true (by omega)
      obtain ⟨x0, x1, x2, x3, x4⟩ := x
      unfold opV at hO
      simp only at hO hc hMx d4
      generalize mineN l x0 = mm at *
      have KP : Hid (∀ w', Only [] wr w' → w'.cell? ⟨g, o + n * 5, none⟩ = some (.int .u32 x0) ∧ w'.cell? ⟨g, o + n * 5 + 1, none⟩ = some (.int .u32 x1) ∧ w'.cell? ⟨g, o + n * 5 + 2, none⟩ = some (.int .u32 x2) ∧ w'.cell? ⟨g, o + n * 5 + 3, none⟩ = some (.int .u32 x3) ∧ w'.cell? ⟨g, o + n * 5 + 4, none⟩ = some (.int .u32 (x4 : Int))) := fun w' kk => hc w' kk
      replace hO := Lib.hid hO
      replace hMx := Lib.hid hMx
      clear hc hatk hat hx hxm hv hI hm4
      go_wp2_with fail
      refine wp_region_held_drew (S := fun w' => w'.cell? ⟨g, o + n * 5, none⟩ = some (.int .u32 x0) ∧ w'.cell? ⟨g, o + n * 5 + 1, none⟩ = some (.int .u32 x1) ∧ w'.cell? ⟨g, o + n * 5 + 2, none⟩ = some (.int .u32 x2) ∧ w'.cell? ⟨g, o + n * 5 + 3, none⟩ = some (.int .u32 x3) ∧ w'.cell? ⟨g, o + n * 5 + 4, none⟩ = some (.int .u32 (x4 : Int))) (by kernel_rfl) (KP.out _ (Only.refl _ _).drew) (fun hHeld => ?_)
      refine held_take 0 (.slice (some ⟨g, o, none⟩) l.length c) rfl (by kernel_rfl) (by kernel_rfl) (by kernel_rfl) (fun _ _ _ h => h) hHeld (Or.inl ⟨by rfl, fun w' hSw => by (try dsimp only at hSw); (try subst hSw); go_simp⟩) ?_
      simp only [Act.put, List.setIfInBounds_toArray, List.set_cons_zero, List.set_cons_succ]
      refine held_take 1 (.int .i64 n) rfl (by kernel_rfl) (by kernel_rfl) (by kernel_rfl) (fun _ _ _ h => h) hHeld (Or.inl ⟨by rfl, fun w' hSw => by (try dsimp only at hSw); (try subst hSw); go_simp⟩) ?_
      simp only [Act.put, List.setIfInBounds_toArray, List.set_cons_zero, List.set_cons_succ]
      refine held_take 2 (.pointer (some ⟨g, o + n * 5, none⟩)) rfl (by kernel_rfl) (by kernel_rfl) (by kernel_rfl) (fun _ _ _ h => h) hHeld (Or.inl ⟨by rfl, fun w' hSw => by (try dsimp only at hSw); (try subst hSw); go_simp⟩) ?_
      simp only [Act.put, List.setIfInBounds_toArray, List.set_cons_zero, List.set_cons_succ]
      refine held_take 3 (.agg #[.int .u32 x0, .int .u32 x1, .int .u32 x2, .int .u32 x3, .int .u32 (x4 : Int)]) rfl (by kernel_rfl) (by kernel_rfl) (by kernel_rfl) (fun _ _ _ h => h) hHeld (Or.inl ⟨by rfl, fun w' hSw => by (try dsimp only at hSw); (try subst hSw); go_simp⟩) ?_
      simp only [Act.put, List.setIfInBounds_toArray, List.set_cons_zero, List.set_cons_succ]
      refine held_step 4 rfl (by kernel_rfl) (fun K hK => ?_)
      go_simp
      refine (hO.out _).mono ?_; rintro e w3 ⟨rfl, k3⟩; replace k3 := k3.undrew
      go_wp2_with fail
      refine hK.out _ _ (KP.out _ k3) (fun hHeld => ?_)
      clear hK K
      refine held_take 5 (.bool false) rfl (by kernel_rfl) (by kernel_rfl) (by kernel_rfl) (fun _ _ _ h => h) hHeld (Or.inl ⟨by rfl, fun w' hSw => by (try dsimp only at hSw); (try subst hSw); go_simp⟩) ?_
      simp only [Act.put, List.setIfInBounds_toArray, List.set_cons_zero, List.set_cons_succ]
      refine held_take 6 (.bool false) rfl (by kernel_rfl) (by kernel_rfl) (by kernel_rfl) (fun _ _ _ h => h) hHeld (Or.inl ⟨by rfl, fun w' hSw => by (try dsimp only at hSw); (try subst hSw); go_simp⟩) ?_
      simp only [Act.put, List.setIfInBounds_toArray, List.set_cons_zero, List.set_cons_succ]
      refine held_take 7 (.slice (some ⟨g, o, none⟩) l.length c) rfl (by kernel_rfl) (by kernel_rfl) (by kernel_rfl) (fun _ _ _ h => h) hHeld (Or.inl ⟨by rfl, fun w' hSw => by (try dsimp only at hSw); (try subst hSw); go_simp⟩) ?_
      simp only [Act.put, List.setIfInBounds_toArray, List.set_cons_zero, List.set_cons_succ]
      refine held_take 8 (.slice (some ⟨g, o, none⟩) l.length c) rfl (by kernel_rfl) (by kernel_rfl) (by kernel_rfl) (fun _ _ _ h => h) hHeld (Or.inl ⟨by rfl, fun w' hSw => by (try dsimp only at hSw); (try subst hSw); go_simp⟩) ?_
      simp only [Act.put, List.setIfInBounds_toArray, List.set_cons_zero, List.set_cons_succ]
      refine held_take 9 (.int .i64 n) rfl (by kernel_rfl) (by kernel_rfl) (by kernel_rfl) (fun _ _ _ h => h) hHeld (Or.inl ⟨by rfl, fun w' hSw => by (try dsimp only at hSw); (try subst hSw); go_simp⟩) ?_
      simp only [Act.put, List.setIfInBounds_toArray, List.set_cons_zero, List.set_cons_succ]
      refine held_take 10 (.pointer (some ⟨g, o + n * 5, none⟩)) rfl (by kernel_rfl) (by kernel_rfl) (by kernel_rfl) (fun _ _ _ h => h) hHeld (Or.inl ⟨by rfl, fun w' hSw => by (try dsimp only at hSw); (try subst hSw); go_simp⟩) ?_
      simp only [Act.put, List.setIfInBounds_toArray, List.set_cons_zero, List.set_cons_succ]
      refine held_take 11 (.pointer (some ⟨g, o + n * 5, none⟩)) rfl (by kernel_rfl) (by kernel_rfl) (by kernel_rfl) (fun _ _ _ h => h) hHeld (Or.inl ⟨by rfl, fun w' hSw => by (try dsimp only at hSw); (try subst hSw); go_simp⟩) ?_
      simp only [Act.put, List.setIfInBounds_toArray, List.set_cons_zero, List.set_cons_succ]
      refine held_take 12 (.int .u32 x0) rfl (by kernel_rfl) (by kernel_rfl) (by kernel_rfl) (fun _ _ _ h => h) hHeld (Or.inl ⟨by rfl, fun w' hSw => by (try dsimp only at hSw); (try subst hSw); go_simp⟩) ?_
      simp only [Act.put, List.setIfInBounds_toArray, List.set_cons_zero, List.set_cons_succ]
      refine held_step 13 rfl (by kernel_rfl) (fun K hK => ?_)
      go_simp
      refine (hMx.out _ (hk.trans k3)).mono ?_; rintro e w4 ⟨rfl, rfl⟩
      go_wp2_with fail
      refine hK.out _ _ (KP.out _ k3) (fun hHeld => ?_)
      clear hK K
      refine held_take 14 (.bool true) rfl (by kernel_rfl) (by kernel_rfl) (by kernel_rfl) (fun _ _ _ h => h) hHeld (Or.inl ⟨by rfl, fun w' hSw => by (try dsimp only at hSw); (try subst hSw); go_simp⟩) ?_
      simp only [Act.put, List.setIfInBounds_toArray, List.set_cons_zero, List.set_cons_succ]
      refine held_take 15 (.bool true) rfl (by kernel_rfl) (by kernel_rfl) (by kernel_rfl) (fun _ _ _ h => h) hHeld (Or.inl ⟨by rfl, fun w' hSw => by (try dsimp only at hSw); (try subst hSw); go_simp⟩) ?_
      simp only [Act.put, List.setIfInBounds_toArray, List.set_cons_zero, List.set_cons_succ]
      refine held_take 16 (.bool true) rfl (by kernel_rfl) (by kernel_rfl) (by kernel_rfl) (fun _ _ _ h => h) hHeld (Or.inl ⟨by rfl, fun w' hSw => by (try dsimp only at hSw); (try subst hSw); go_simp⟩) ?_
      simp only [Act.put, List.setIfInBounds_toArray, List.set_cons_zero, List.set_cons_succ]
      refine held_take 17 undef rfl (by kernel_rfl) (by kernel_rfl) (by kernel_rfl) (fun _ _ _ h => h) hHeld (Or.inr ⟨by rfl, rfl⟩) ?_
      simp only [Act.put, List.setIfInBounds_toArray, List.set_cons_zero, List.set_cons_succ]
      refine held_take 18 undef rfl (by kernel_rfl) (by kernel_rfl) (by kernel_rfl) (fun _ _ _ h => h) hHeld (Or.inr ⟨by rfl, rfl⟩) ?_
      simp only [Act.put, List.setIfInBounds_toArray, List.set_cons_zero, List.set_cons_succ]
      refine held_take 19 undef rfl (by kernel_rfl) (by kernel_rfl) (by kernel_rfl) (fun _ _ _ h => h) hHeld (Or.inr ⟨by rfl, rfl⟩) ?_
      simp only [Act.put, List.setIfInBounds_toArray, List.set_cons_zero, List.set_cons_succ]
      refine held_take 20 undef rfl (by kernel_rfl) (by kernel_rfl) (by kernel_rfl) (fun _ _ _ h => h) hHeld (Or.inr ⟨by rfl, rfl⟩) ?_
      simp only [Act.put, List.setIfInBounds_toArray, List.set_cons_zero, List.set_cons_succ]
      refine held_take 21 undef rfl (by kernel_rfl) (by kernel_rfl) (by kernel_rfl) (fun _ _ _ h => h) hHeld (Or.inr ⟨by rfl, rfl⟩) ?_
      simp only [Act.put, List.setIfInBounds_toArray, List.set_cons_zero, List.set_cons_succ]
      refine held_take 22 undef rfl (by kernel_rfl) (by kernel_rfl) (by kernel_rfl) (fun _ _ _ h => h) hHeld (Or.inr ⟨by rfl, rfl⟩) ?_
      simp only [Act.put, List.setIfInBounds_toArray, List.set_cons_zero, List.set_cons_succ]
      refine held_take 23 undef rfl (by kernel_rfl) (by kernel_rfl) (by kernel_rfl) (fun _ _ _ h => h) hHeld (Or.inr ⟨by rfl, rfl⟩) ?_
      simp only [Act.put, List.setIfInBounds_toArray, List.set_cons_zero, List.set_cons_succ]
      refine held_take 24 undef rfl (by kernel_rfl) (by kernel_rfl) (by kernel_rfl) (fun _ _ _ h => h) hHeld (Or.inr ⟨by rfl, rfl⟩) ?_
      simp only [Act.put, List.setIfInBounds_toArray, List.set_cons_zero, List.set_cons_succ]
      refine held_take 25 undef rfl (by kernel_rfl) (by kernel_rfl) (by kernel_rfl) (fun _ _ _ h => h) hHeld (Or.inr ⟨by rfl, rfl⟩) ?_
      simp only [Act.put, List.setIfInBounds_toArray, List.set_cons_zero, List.set_cons_succ]
      refine held_take 26 undef rfl (by kernel_rfl) (by kernel_rfl) (by kernel_rfl) (fun _ _ _ h => h) hHeld (Or.inr ⟨by rfl, rfl⟩) ?_
      simp only [Act.put, List.setIfInBounds_toArray, List.set_cons_zero, List.set_cons_succ]
      refine held_take 27 undef rfl (by kernel_rfl) (by kernel_rfl) (by kernel_rfl) (fun _ _ _ h => h) hHeld (Or.inr ⟨by rfl, rfl⟩) ?_
      simp only [Act.put, List.setIfInBounds_toArray, List.set_cons_zero, List.set_cons_succ]
      refine held_take 28 undef rfl (by kernel_rfl) (by kernel_rfl) (by kernel_rfl) (fun _ _ _ h => h) hHeld (Or.inr ⟨by rfl, rfl⟩) ?_
      simp only [Act.put, List.setIfInBounds_toArray, List.set_cons_zero, List.set_cons_succ]
      refine held_take 29 undef rfl (by kernel_rfl) (by kernel_rfl) (by kernel_rfl) (fun _ _ _ h => h) hHeld (Or.inr ⟨by rfl, rfl⟩) ?_
      simp only [Act.put, List.setIfInBounds_toArray, List.set_cons_zero, List.set_cons_succ]
      refine held_take 30 undef rfl (by kernel_rfl) (by kernel_rfl) (by kernel_rfl) (fun _ _ _ h => h) hHeld (Or.inr ⟨by rfl, rfl⟩) ?_
      simp only [Act.put, List.setIfInBounds_toArray, List.set_cons_zero, List.set_cons_succ]
      refine held_take 31 undef rfl (by kernel_rfl) (by kernel_rfl) (by kernel_rfl) (fun _ _ _ h => h) hHeld (Or.inr ⟨by rfl, rfl⟩) ?_
      simp only [Act.put, List.setIfInBounds_toArray, List.set_cons_zero, List.set_cons_succ]
      refine held_take 32 (.bool true) rfl (by kernel_rfl) (by kernel_rfl) (by kernel_rfl) (fun _ _ _ h => h) hHeld (Or.inl ⟨by rfl, fun w' hSw => by (try dsimp only at hSw); (try subst hSw); go_simp⟩) ?_
      simp only [Act.put, List.setIfInBounds_toArray, List.set_cons_zero, List.set_cons_succ]
      refine wpAnyH_done (by kernel_rfl) ?_ _
      clear hHeld
      go_wp2
      go_ret
      exact ⟨rfl, hk.trans k3⟩
    have d4 : decide ((4 : Int) < (mineN l x.client : Int)) = false := decide_eq_false (by omega)
    have hm4' : mineN l x.client ≤ 4 := by omega
    by_cases hn0 : n = 0
    · have hgood : Hid (RGood l n x) := ⟨hv, hm4', fun y hy => by rw [hn0] at hy; simp at hy⟩
      have d0 : decide ((0 : Int) < (n : Int)) = false := decide_eq_false (by omega)
      obtain ⟨x0, x1, x2, x3, x4⟩ := x
      unfold opV at hO
      simp only at hO hc hMx d4 hm4'
      generalize mineN l x0 = mm at hMx d4
      replace hv := Lib.hid hv
      replace hx := Lib.hid hx
      replace hO := Lib.hid hO
      replace hMx := Lib.hid hMx
      replace hm4' := Lib.hid hm4'
      have hat := Lib.hid hat
      have KP : Hid (∀ w', Only [] wr w' → w'.cell? ⟨g, o + n * 5, none⟩ = some (.int .u32 x0) ∧ w'.cell? ⟨g, o + n * 5 + 1, none⟩ = some (.int .u32 x1) ∧ w'.cell? ⟨g, o + n * 5 + 2, none⟩ = some (.int .u32 x2) ∧ w'.cell? ⟨g, o + n * 5 + 3, none⟩ = some (.int .u32 x3) ∧ w'.cell? ⟨g, o + n * 5 + 4, none⟩ = some (.int .u32 (x4 : Int))) := fun w' kk => hc w' kk
      clear hc hatk hxm hm4
      replace hn0 := Lib.hid hn0
      go_wp2_with fail
      refine wp_region_held_drew (S := fun w' => w'.cell? ⟨g, o + n * 5, none⟩ = some (.int .u32 x0) ∧ w'.cell? ⟨g, o + n * 5 + 1, none⟩ = some (.int .u32 x1) ∧ w'.cell? ⟨g, o + n * 5 + 2, none⟩ = some (.int .u32 x2) ∧ w'.cell? ⟨g, o + n * 5 + 3, none⟩ = some (.int .u32 x3) ∧ w'.cell? ⟨g, o + n * 5 + 4, none⟩ = some (.int .u32 (x4 : Int))) (by kernel_rfl) (KP.out _ (Only.refl _ _).drew) (fun hHeld => ?_)
      refine held_take 0 (.slice (some ⟨g, o, none⟩) l.length c) rfl (by kernel_rfl) (by kernel_rfl) (by kernel_rfl) (fun _ _ _ h => h) hHeld (Or.inl ⟨by rfl, fun w' hSw => by (try dsimp only at hSw); (try subst hSw); go_simp⟩) ?_
      simp only [Act.put, List.setIfInBounds_toArray, List.set_cons_zero, List.set_cons_succ]
      refine held_take 1 (.int .i64 n) rfl (by kernel_rfl) (by kernel_rfl) (by kernel_rfl) (fun _ _ _ h => h) hHeld (Or.inl ⟨by rfl, fun w' hSw => by (try dsimp only at hSw); (try subst hSw); go_simp⟩) ?_
      simp only [Act.put, List.setIfInBounds_toArray, List.set_cons_zero, List.set_cons_succ]
      refine held_take 2 (.pointer (some ⟨g, o + n * 5, none⟩)) rfl (by kernel_rfl) (by kernel_rfl) (by kernel_rfl) (fun _ _ _ h => h) hHeld (Or.inl ⟨by rfl, fun w' hSw => by (try dsimp only at hSw); (try subst hSw); go_simp⟩) ?_
      simp only [Act.put, List.setIfInBounds_toArray, List.set_cons_zero, List.set_cons_succ]
      refine held_take 3 (.agg #[.int .u32 x0, .int .u32 x1, .int .u32 x2, .int .u32 x3, .int .u32 (x4 : Int)]) rfl (by kernel_rfl) (by kernel_rfl) (by kernel_rfl) (fun _ _ _ h => h) hHeld (Or.inl ⟨by rfl, fun w' hSw => by (try dsimp only at hSw); (try subst hSw); go_simp⟩) ?_
      simp only [Act.put, List.setIfInBounds_toArray, List.set_cons_zero, List.set_cons_succ]
      refine held_step 4 rfl (by kernel_rfl) (fun K hK => ?_)
      go_simp
      refine (hO.out _).mono ?_; rintro e w3 ⟨rfl, k3⟩; replace k3 := k3.undrew
      go_wp2_with fail
      refine hK.out _ _ (KP.out _ k3) (fun hHeld => ?_)
      clear hK K
      refine held_take 5 (.bool false) rfl (by kernel_rfl) (by kernel_rfl) (by kernel_rfl) (fun _ _ _ h => h) hHeld (Or.inl ⟨by rfl, fun w' hSw => by (try dsimp only at hSw); (try subst hSw); go_simp⟩) ?_
      simp only [Act.put, List.setIfInBounds_toArray, List.set_cons_zero, List.set_cons_succ]
      refine held_take 6 (.bool false) rfl (by kernel_rfl) (by kernel_rfl) (by kernel_rfl) (fun _ _ _ h => h) hHeld (Or.inl ⟨by rfl, fun w' hSw => by (try dsimp only at hSw); (try subst hSw); go_simp⟩) ?_
      simp only [Act.put, List.setIfInBounds_toArray, List.set_cons_zero, List.set_cons_succ]
      refine held_take 7 (.slice (some ⟨g, o, none⟩) l.length c) rfl (by kernel_rfl) (by kernel_rfl) (by kernel_rfl) (fun _ _ _ h => h) hHeld (Or.inl ⟨by rfl, fun w' hSw => by (try dsimp only at hSw); (try subst hSw); go_simp⟩) ?_
      simp only [Act.put, List.setIfInBounds_toArray, List.set_cons_zero, List.set_cons_succ]
      refine held_take 8 (.slice (some ⟨g, o, none⟩) l.length c) rfl (by kernel_rfl) (by kernel_rfl) (by kernel_rfl) (fun _ _ _ h => h) hHeld (Or.inl ⟨by rfl, fun w' hSw => by (try dsimp only at hSw); (try subst hSw); go_simp⟩) ?_
      simp only [Act.put, List.setIfInBounds_toArray, List.set_cons_zero, List.set_cons_succ]
      refine held_take 9 (.int .i64 n) rfl (by kernel_rfl) (by kernel_rfl) (by kernel_rfl) (fun _ _ _ h => h) hHeld (Or.inl ⟨by rfl, fun w' hSw => by (try dsimp only at hSw); (try subst hSw); go_simp⟩) ?_
      simp only [Act.put, List.setIfInBounds_toArray, List.set_cons_zero, List.set_cons_succ]
      refine held_take 10 (.pointer (some ⟨g, o + n * 5, none⟩)) rfl (by kernel_rfl) (by kernel_rfl) (by kernel_rfl) (fun _ _ _ h => h) hHeld (Or.inl ⟨by rfl, fun w' hSw => by (try dsimp only at hSw); (try subst hSw); go_simp⟩) ?_
      simp only [Act.put, List.setIfInBounds_toArray, List.set_cons_zero, List.set_cons_succ]
      refine held_take 11 (.pointer (some ⟨g, o + n * 5, none⟩)) rfl (by kernel_rfl) (by kernel_rfl) (by kernel_rfl) (fun _ _ _ h => h) hHeld (Or.inl ⟨by rfl, fun w' hSw => by (try dsimp only at hSw); (try subst hSw); go_simp⟩) ?_
      simp only [Act.put, List.setIfInBounds_toArray, List.set_cons_zero, List.set_cons_succ]
      refine held_take 12 (.int .u32 x0) rfl (by kernel_rfl) (by kernel_rfl) (by kernel_rfl) (fun _ _ _ h => h) hHeld (Or.inl ⟨by rfl, fun w' hSw => by (try dsimp only at hSw); (try subst hSw); go_simp⟩) ?_
      simp only [Act.put, List.setIfInBounds_toArray, List.set_cons_zero, List.set_cons_succ]
      refine held_step 13 rfl (by kernel_rfl) (fun K hK => ?_)
      go_simp
      refine (hMx.out _ (hk.trans k3)).mono ?_; rintro e w4 ⟨rfl, rfl⟩
      go_wp2_with fail
      refine hK.out _ _ (KP.out _ k3) (fun hHeld => ?_)
      clear hK K
      refine held_take 14 (.bool false) rfl (by kernel_rfl) (by kernel_rfl) (by kernel_rfl) (fun _ _ _ h => h) hHeld (Or.inl ⟨by rfl, fun w' hSw => by (try dsimp only at hSw); (try subst hSw); go_simp⟩) ?_
      simp only [Act.put, List.setIfInBounds_toArray, List.set_cons_zero, List.set_cons_succ]
      refine held_take 15 (.bool false) rfl (by kernel_rfl) (by kernel_rfl) (by kernel_rfl) (fun _ _ _ h => h) hHeld (Or.inl ⟨by rfl, fun w' hSw => by (try dsimp only at hSw); (try subst hSw); go_simp⟩) ?_
      simp only [Act.put, List.setIfInBounds_toArray, List.set_cons_zero, List.set_cons_succ]
      refine held_take 16 (.bool false) rfl (by kernel_rfl) (by kernel_rfl) (by kernel_rfl) (fun _ _ _ h => h) hHeld (Or.inl ⟨by rfl, fun w' hSw => by (try dsimp only at hSw); (try subst hSw); go_simp⟩) ?_
      simp only [Act.put, List.setIfInBounds_toArray, List.set_cons_zero, List.set_cons_succ]
      refine held_take 17 (.int .i64 n) rfl (by kernel_rfl) (by kernel_rfl) (by kernel_rfl) (fun _ _ _ h => h) hHeld (Or.inl ⟨by rfl, fun w' hSw => by (try dsimp only at hSw); (try subst hSw); go_simp⟩) ?_
      simp only [Act.put, List.setIfInBounds_toArray, List.set_cons_zero, List.set_cons_succ]
      refine held_take 18 (.bool false) rfl (by kernel_rfl) (by kernel_rfl) (by kernel_rfl) (fun _ _ _ h => h) hHeld (Or.inl ⟨by rfl, fun w' hSw => by go_simp; exact hn0.out⟩) ?_
      simp only [Act.put, List.setIfInBounds_toArray, List.set_cons_zero, List.set_cons_succ]
      refine held_take 19 (.bool false) rfl (by kernel_rfl) (by kernel_rfl) (by kernel_rfl) (fun _ _ _ h => h) hHeld (Or.inl ⟨by rfl, fun w' hSw => by (try dsimp only at hSw); (try subst hSw); go_simp⟩) ?_
      simp only [Act.put, List.setIfInBounds_toArray, List.set_cons_zero, List.set_cons_succ]
      refine held_take 20 undef rfl (by kernel_rfl) (by kernel_rfl) (by kernel_rfl) (fun _ _ _ h => h) hHeld (Or.inr ⟨by rfl, rfl⟩) ?_
      simp only [Act.put, List.setIfInBounds_toArray, List.set_cons_zero, List.set_cons_succ]
      refine held_take 21 undef rfl (by kernel_rfl) (by kernel_rfl) (by kernel_rfl) (fun _ _ _ h => h) hHeld (Or.inr ⟨by rfl, rfl⟩) ?_
      simp only [Act.put, List.setIfInBounds_toArray, List.set_cons_zero, List.set_cons_succ]
      refine held_take 22 undef rfl (by kernel_rfl) (by kernel_rfl) (by kernel_rfl) (fun _ _ _ h => h) hHeld (Or.inr ⟨by rfl, rfl⟩) ?_
      simp only [Act.put, List.setIfInBounds_toArray, List.set_cons_zero, List.set_cons_succ]
      refine held_take 23 undef rfl (by kernel_rfl) (by kernel_rfl) (by kernel_rfl) (fun _ _ _ h => h) hHeld (Or.inr ⟨by rfl, rfl⟩) ?_
      simp only [Act.put, List.setIfInBounds_toArray, List.set_cons_zero, List.set_cons_succ]
      refine held_take 24 undef rfl (by kernel_rfl) (by kernel_rfl) (by kernel_rfl) (fun _ _ _ h => h) hHeld (Or.inr ⟨by rfl, rfl⟩) ?_
      simp only [Act.put, List.setIfInBounds_toArray, List.set_cons_zero, List.set_cons_succ]
      refine held_take 25 undef rfl (by kernel_rfl) (by kernel_rfl) (by kernel_rfl) (fun _ _ _ h => h) hHeld (Or.inr ⟨by rfl, rfl⟩) ?_
      simp only [Act.put, List.setIfInBounds_toArray, List.set_cons_zero, List.set_cons_succ]
      refine held_take 26 undef rfl (by kernel_rfl) (by kernel_rfl) (by kernel_rfl) (fun _ _ _ h => h) hHeld (Or.inr ⟨by rfl, rfl⟩) ?_
      simp only [Act.put, List.setIfInBounds_toArray, List.set_cons_zero, List.set_cons_succ]
      refine held_take 27 undef rfl (by kernel_rfl) (by kernel_rfl) (by kernel_rfl) (fun _ _ _ h => h) hHeld (Or.inr ⟨by rfl, rfl⟩) ?_
      simp only [Act.put, List.setIfInBounds_toArray, List.set_cons_zero, List.set_cons_succ]
      refine held_take 28 undef rfl (by kernel_rfl) (by kernel_rfl) (by kernel_rfl) (fun _ _ _ h => h) hHeld (Or.inr ⟨by rfl, rfl⟩) ?_
      simp only [Act.put, List.setIfInBounds_toArray, List.set_cons_zero, List.set_cons_succ]
      refine held_take 29 undef rfl (by kernel_rfl) (by kernel_rfl) (by kernel_rfl) (fun _ _ _ h => h) hHeld (Or.inr ⟨by rfl, rfl⟩) ?_
      simp only [Act.put, List.setIfInBounds_toArray, List.set_cons_zero, List.set_cons_succ]
      refine held_take 30 undef rfl (by kernel_rfl) (by kernel_rfl) (by kernel_rfl) (fun _ _ _ h => h) hHeld (Or.inr ⟨by rfl, rfl⟩) ?_
      simp only [Act.put, List.setIfInBounds_toArray, List.set_cons_zero, List.set_cons_succ]
      refine held_take 31 (.bool false) rfl (by kernel_rfl) (by kernel_rfl) (by kernel_rfl) (fun _ _ _ h => h) hHeld (Or.inl ⟨by rfl, fun w' hSw => by (try dsimp only at hSw); (try subst hSw); go_simp⟩) ?_
      simp only [Act.put, List.setIfInBounds_toArray, List.set_cons_zero, List.set_cons_succ]
      refine held_take 32 (.bool false) rfl (by kernel_rfl) (by kernel_rfl) (by kernel_rfl) (fun _ _ _ h => h) hHeld (Or.inl ⟨by rfl, fun w' hSw => by (try dsimp only at hSw); (try subst hSw); go_simp⟩) ?_
      simp only [Act.put, List.setIfInBounds_toArray, List.set_cons_zero, List.set_cons_succ]
      refine wpAnyH_done (by kernel_rfl) ?_ _
      clear hHeld
      go_wp2_with fail
      have hk3 := hk.trans k3
      clear k3 hk
      go_loopw [4] (fun i wq => ∃ k : Nat, k ≤ n ∧ i = .int .i64 k ∧ Hid (∀ j y, j < k → l[j]? = some y → ¬ clashO y ⟨x0, x1, x2, x3, x4⟩) ∧ Only [] w wq) (fun i _ => n - (intOf i).toNat)
      case atStart => exact ⟨0, by omega, rfl, fun j y h => by omega, hk3⟩
      case round =>
        clear hk3
        obtain ⟨k, hkn0, rfl, hcl, hk⟩ := hrel
        by_cases hkn : k < n
        · have hkl : k < l.length := by omega
          have hy : l[k]? = some l[k] := List.getElem?_eq_getElem hkl
          have hyv : validO l[k] := (hI.out.ok _ (by rw [List.mem_take_iff_getElem]; exact ⟨k, by omega, rfl⟩)).1
          have hCx := fun W => clash_any W l[k] _ hyv hv.out
          have hatq := hat.out.kept hk (by simp)
          have hcy := fun W (k' : Only [] wr W) => ops_at (hatq.kept k' (by simp)) hkl
          have hcx := fun W (k' : Only [] wr W) => ops_at (hatq.kept k' (by simp)) hlt
          have hxe : l[n] = _ := (List.getElem?_eq_some_iff.1 hx.out).2
          rw [hxe] at hcx
          clear hxe hatq
          generalize l[k] = y at *
          have hncl : ¬ clashO y ⟨x0, x1, x2, x3, x4⟩ → Hid (∀ j y, j < k + 1 → l[j]? = some y → ¬ clashO y ⟨x0, x1, x2, x3, x4⟩) := fun hc j z hj hz => by
            by_cases e : j = k
            · subst e
              rw [hy] at hz
              injection hz with hz
              subst hz
              exact hc
            · exact hcl.out j z (by omega) hz
          obtain ⟨y0, y1, y2, y3, y4⟩ := y
          unfold opV at hCx
          simp only at hCx hcy hcx
          have KP : Hid (∀ w', Only [] wr w' → w'.cell? ⟨g, o + k * 5, none⟩ = some (.int .u32 y0) ∧ w'.cell? ⟨g, o + k * 5 + 1, none⟩ = some (.int .u32 y1) ∧ w'.cell? ⟨g, o + k * 5 + 2, none⟩ = some (.int .u32 y2) ∧ w'.cell? ⟨g, o + k * 5 + 3, none⟩ = some (.int .u32 y3) ∧ w'.cell? ⟨g, o + k * 5 + 4, none⟩ = some (.int .u32 (y4 : Int)) ∧ w'.cell? ⟨g, o + n * 5, none⟩ = some (.int .u32 x0) ∧ w'.cell? ⟨g, o + n * 5 + 1, none⟩ = some (.int .u32 x1) ∧ w'.cell? ⟨g, o + n * 5 + 2, none⟩ = some (.int .u32 x2) ∧ w'.cell? ⟨g, o + n * 5 + 3, none⟩ = some (.int .u32 x3) ∧ w'.cell? ⟨g, o + n * 5 + 4, none⟩ = some (.int .u32 (x4 : Int))) := fun w' kk => by
            obtain ⟨a0, a1, a2, a3, a4⟩ := hcy w' kk
            exact ⟨a0, a1, a2, a3, a4, hcx w' kk⟩
          clear hcy hcx
          by_cases hcc : clashO ⟨y0, y1, y2, y3, y4⟩ ⟨x0, x1, x2, x3, x4⟩
          · obtain rfl := hno.out (not_calm hy hx.out hkn hcc)
            rw [decide_eq_true hcc] at hCx
            replace hCx := Lib.hid hCx
            replace hy := Lib.hid hy
            clear hncl hcc hyv
            go_wp2_with fail
            refine wp_region_held_drew (S := fun w' => w'.cell? ⟨g, o + k * 5, none⟩ = some (.int .u32 y0) ∧ w'.cell? ⟨g, o + k * 5 + 1, none⟩ = some (.int .u32 y1) ∧ w'.cell? ⟨g, o + k * 5 + 2, none⟩ = some (.int .u32 y2) ∧ w'.cell? ⟨g, o + k * 5 + 3, none⟩ = some (.int .u32 y3) ∧ w'.cell? ⟨g, o + k * 5 + 4, none⟩ = some (.int .u32 (y4 : Int)) ∧ w'.cell? ⟨g, o + n * 5, none⟩ = some (.int .u32 x0) ∧ w'.cell? ⟨g, o + n * 5 + 1, none⟩ = some (.int .u32 x1) ∧ w'.cell? ⟨g, o + n * 5 + 2, none⟩ = some (.int .u32 x2) ∧ w'.cell? ⟨g, o + n * 5 + 3, none⟩ = some (.int .u32 x3) ∧ w'.cell? ⟨g, o + n * 5 + 4, none⟩ = some (.int .u32 (x4 : Int))) (by kernel_rfl) (KP.out _ (Only.refl _ _).drew) (fun hHeld => ?_)
            refine held_take 0 (.slice (some ⟨g, o, none⟩) l.length c) rfl (by kernel_rfl) (by kernel_rfl) (by kernel_rfl) (fun _ _ _ h => h) hHeld (Or.inl ⟨by rfl, fun w' hSw => by (try dsimp only at hSw); (try subst hSw); go_simp⟩) ?_
            simp only [Act.put, List.setIfInBounds_toArray, List.set_cons_zero, List.set_cons_succ]
            refine held_take 1 (.int .i64 k) rfl (by kernel_rfl) (by kernel_rfl) (by kernel_rfl) (fun _ _ _ h => h) hHeld (Or.inl ⟨by rfl, fun w' hSw => by (try dsimp only at hSw); (try subst hSw); go_simp⟩) ?_
            simp only [Act.put, List.setIfInBounds_toArray, List.set_cons_zero, List.set_cons_succ]
            refine held_take 2 (.pointer (some ⟨g, o + k * 5, none⟩)) rfl (by kernel_rfl) (by kernel_rfl) (by kernel_rfl) (fun _ _ _ h => h) hHeld (Or.inl ⟨by rfl, fun w' hSw => by (try dsimp only at hSw); (try subst hSw); go_simp⟩) ?_
            simp only [Act.put, List.setIfInBounds_toArray, List.set_cons_zero, List.set_cons_succ]
            refine held_take 3 (.agg #[.int .u32 y0, .int .u32 y1, .int .u32 y2, .int .u32 y3, .int .u32 (y4 : Int)]) rfl (by kernel_rfl) (by kernel_rfl) (by kernel_rfl) (fun _ _ _ h => h) hHeld (Or.inl ⟨by rfl, fun w' hSw => by (try dsimp only at hSw); (try subst hSw); go_simp⟩) ?_
            simp only [Act.put, List.setIfInBounds_toArray, List.set_cons_zero, List.set_cons_succ]
            refine held_take 4 (.slice (some ⟨g, o, none⟩) l.length c) rfl (by kernel_rfl) (by kernel_rfl) (by kernel_rfl) (fun _ _ _ h => h) hHeld (Or.inl ⟨by rfl, fun w' hSw => by (try dsimp only at hSw); (try subst hSw); go_simp⟩) ?_
            simp only [Act.put, List.setIfInBounds_toArray, List.set_cons_zero, List.set_cons_succ]
            refine held_take 5 (.int .i64 n) rfl (by kernel_rfl) (by kernel_rfl) (by kernel_rfl) (fun _ _ _ h => h) hHeld (Or.inl ⟨by rfl, fun w' hSw => by (try dsimp only at hSw); (try subst hSw); go_simp⟩) ?_
            simp only [Act.put, List.setIfInBounds_toArray, List.set_cons_zero, List.set_cons_succ]
            refine held_take 6 (.pointer (some ⟨g, o + n * 5, none⟩)) rfl (by kernel_rfl) (by kernel_rfl) (by kernel_rfl) (fun _ _ _ h => h) hHeld (Or.inl ⟨by rfl, fun w' hSw => by (try dsimp only at hSw); (try subst hSw); go_simp⟩) ?_
            simp only [Act.put, List.setIfInBounds_toArray, List.set_cons_zero, List.set_cons_succ]
            refine held_take 7 (.agg #[.int .u32 x0, .int .u32 x1, .int .u32 x2, .int .u32 x3, .int .u32 (x4 : Int)]) rfl (by kernel_rfl) (by kernel_rfl) (by kernel_rfl) (fun _ _ _ h => h) hHeld (Or.inl ⟨by rfl, fun w' hSw => by (try dsimp only at hSw); (try subst hSw); go_simp⟩) ?_
            simp only [Act.put, List.setIfInBounds_toArray, List.set_cons_zero, List.set_cons_succ]
            refine held_step 8 rfl (by kernel_rfl) (fun K hK => ?_)
            go_simp
            refine (hCx.out _).mono ?_; rintro e w5 ⟨rfl, k5⟩; replace k5 := k5.undrew
            go_wp2_with fail
            refine hK.out _ _ (KP.out _ k5) (fun hHeld => ?_)
            clear hK K
            refine wpAnyH_done (by kernel_rfl) ?_ _
            clear hHeld
            go_wp2
            go_ret
            exact ⟨rfl, hk.trans k5⟩
          · have hnx := hncl hcc
            rw [decide_eq_false hcc] at hCx
            replace hCx := Lib.hid hCx
            replace hy := Lib.hid hy
            clear hncl hcc hyv
            go_wp2_with fail
            refine wp_region_held_drew (S := fun w' => w'.cell? ⟨g, o + k * 5, none⟩ = some (.int .u32 y0) ∧ w'.cell? ⟨g, o + k * 5 + 1, none⟩ = some (.int .u32 y1) ∧ w'.cell? ⟨g, o + k * 5 + 2, none⟩ = some (.int .u32 y2) ∧ w'.cell? ⟨g, o + k * 5 + 3, none⟩ = some (.int .u32 y3) ∧ w'.cell? ⟨g, o + k * 5 + 4, none⟩ = some (.int .u32 (y4 : Int)) ∧ w'.cell? ⟨g, o + n * 5, none⟩ = some (.int .u32 x0) ∧ w'.cell? ⟨g, o + n * 5 + 1, none⟩ = some (.int .u32 x1) ∧ w'.cell? ⟨g, o + n * 5 + 2, none⟩ = some (.int .u32 x2) ∧ w'.cell? ⟨g, o + n * 5 + 3, none⟩ = some (.int .u32 x3) ∧ w'.cell? ⟨g, o + n * 5 + 4, none⟩ = some (.int .u32 (x4 : Int))) (by kernel_rfl) (KP.out _ (Only.refl _ _).drew) (fun hHeld => ?_)
            refine held_take 0 (.slice (some ⟨g, o, none⟩) l.length c) rfl (by kernel_rfl) (by kernel_rfl) (by kernel_rfl) (fun _ _ _ h => h) hHeld (Or.inl ⟨by rfl, fun w' hSw => by (try dsimp only at hSw); (try subst hSw); go_simp⟩) ?_
            simp only [Act.put, List.setIfInBounds_toArray, List.set_cons_zero, List.set_cons_succ]
            refine held_take 1 (.int .i64 k) rfl (by kernel_rfl) (by kernel_rfl) (by kernel_rfl) (fun _ _ _ h => h) hHeld (Or.inl ⟨by rfl, fun w' hSw => by (try dsimp only at hSw); (try subst hSw); go_simp⟩) ?_
            simp only [Act.put, List.setIfInBounds_toArray, List.set_cons_zero, List.set_cons_succ]
            refine held_take 2 (.pointer (some ⟨g, o + k * 5, none⟩)) rfl (by kernel_rfl) (by kernel_rfl) (by kernel_rfl) (fun _ _ _ h => h) hHeld (Or.inl ⟨by rfl, fun w' hSw => by (try dsimp only at hSw); (try subst hSw); go_simp⟩) ?_
            simp only [Act.put, List.setIfInBounds_toArray, List.set_cons_zero, List.set_cons_succ]
            refine held_take 3 (.agg #[.int .u32 y0, .int .u32 y1, .int .u32 y2, .int .u32 y3, .int .u32 (y4 : Int)]) rfl (by kernel_rfl) (by kernel_rfl) (by kernel_rfl) (fun _ _ _ h => h) hHeld (Or.inl ⟨by rfl, fun w' hSw => by (try dsimp only at hSw); (try subst hSw); go_simp⟩) ?_
            simp only [Act.put, List.setIfInBounds_toArray, List.set_cons_zero, List.set_cons_succ]
            refine held_take 4 (.slice (some ⟨g, o, none⟩) l.length c) rfl (by kernel_rfl) (by kernel_rfl) (by kernel_rfl) (fun _ _ _ h => h) hHeld (Or.inl ⟨by rfl, fun w' hSw => by (try dsimp only at hSw); (try subst hSw); go_simp⟩) ?_
            simp only [Act.put, List.setIfInBounds_toArray, List.set_cons_zero, List.set_cons_succ]
            refine held_take 5 (.int .i64 n) rfl (by kernel_rfl) (by kernel_rfl) (by kernel_rfl) (fun _ _ _ h => h) hHeld (Or.inl ⟨by rfl, fun w' hSw => by (try dsimp only at hSw); (try subst hSw); go_simp⟩) ?_
            simp only [Act.put, List.setIfInBounds_toArray, List.set_cons_zero, List.set_cons_succ]
            refine held_take 6 (.pointer (some ⟨g, o + n * 5, none⟩)) rfl (by kernel_rfl) (by kernel_rfl) (by kernel_rfl) (fun _ _ _ h => h) hHeld (Or.inl ⟨by rfl, fun w' hSw => by (try dsimp only at hSw); (try subst hSw); go_simp⟩) ?_
            simp only [Act.put, List.setIfInBounds_toArray, List.set_cons_zero, List.set_cons_succ]
            refine held_take 7 (.agg #[.int .u32 x0, .int .u32 x1, .int .u32 x2, .int .u32 x3, .int .u32 (x4 : Int)]) rfl (by kernel_rfl) (by kernel_rfl) (by kernel_rfl) (fun _ _ _ h => h) hHeld (Or.inl ⟨by rfl, fun w' hSw => by (try dsimp only at hSw); (try subst hSw); go_simp⟩) ?_
            simp only [Act.put, List.setIfInBounds_toArray, List.set_cons_zero, List.set_cons_succ]
            refine held_step 8 rfl (by kernel_rfl) (fun K hK => ?_)
            go_simp
            refine (hCx.out _).mono ?_; rintro e w5 ⟨rfl, k5⟩; replace k5 := k5.undrew
            go_wp2_with fail
            refine hK.out _ _ (KP.out _ k5) (fun hHeld => ?_)
            clear hK K
            refine wpAnyH_done (by kernel_rfl) ?_ _
            clear hHeld
            go_wp2_with fail
            go_roundw
            case rel => exact ⟨k + 1, by omega, by go_num, hnx, hk.trans k5⟩
            case measure => simp [intOf]; omega
        · have hin : Hid (RInv l (n + 1)) := hI.out.succ hx.out hv.out hgood.out.few hgood.out.last (fun y hy => by
            rw [List.mem_take_iff_getElem] at hy
            obtain ⟨j, hj, rfl⟩ := hy
            exact hcl.out j _ (by omega) (List.getElem?_eq_getElem (by omega)))
          go_wp2_with fail
          go_roundw
          case rel => exact ⟨n + 1, by omega, by go_num, hin, hk⟩
          case measure => simp [intOf]; omega
    · obtain ⟨m, hm⟩ : ∃ m, n = m + 1 := ⟨n - 1, by omega⟩
      have hml : m < l.length := by omega
      have hy : l[m]? = some l[m] := List.getElem?_eq_getElem hml
      have hcy := fun W (k' : Only [] wr W) => ops_at (hatk.kept k' (by simp)) hml
      have hLx := fun W => less_any W l[m] x
      have hw : IntKind.i64.wrap ((n : Int) - 1) = (m : Int) := by rw [hm]; exact wrap_pred m (by omega)
      generalize l[m] = y at *
      have d0 : decide ((0 : Int) < (n : Int)) = true := decide_eq_true (by omega)
      have hx' := hx
      rw [hm] at hx'
      have hnpos : 0 < n := by omega
      by_cases hless : keyLt y x
      · have hgood : Hid (RGood l n x) := ⟨hv, hm4', fun z hz => by rw [hm, take_last hy] at hz; injection hz with hz; subst hz; exact hless⟩
        rw [decide_eq_true hless] at hLx
        clear hless
        obtain ⟨x0, x1, x2, x3, x4⟩ := x
        unfold opV at hO
        simp only at hO hc hMx d4 hm4'
        generalize mineN l x0 = mm at hMx d4
        replace hv := Lib.hid hv
        replace hx := Lib.hid hx
        replace hO := Lib.hid hO
        replace hMx := Lib.hid hMx
        replace hm4' := Lib.hid hm4'
        have hat := Lib.hid hat
        obtain ⟨y0, y1, y2, y3, y4⟩ := y
        unfold opV at hLx
        simp only at hLx hcy
        have KP : Hid (∀ w', Only [] wr w' → w'.cell? ⟨g, o + m * 5, none⟩ = some (.int .u32 y0) ∧ w'.cell? ⟨g, o + m * 5 + 1, none⟩ = some (.int .u32 y1) ∧ w'.cell? ⟨g, o + m * 5 + 2, none⟩ = some (.int .u32 y2) ∧ w'.cell? ⟨g, o + m * 5 + 3, none⟩ = some (.int .u32 y3) ∧ w'.cell? ⟨g, o + m * 5 + 4, none⟩ = some (.int .u32 (y4 : Int)) ∧ w'.cell? ⟨g, o + n * 5, none⟩ = some (.int .u32 x0) ∧ w'.cell? ⟨g, o + n * 5 + 1, none⟩ = some (.int .u32 x1) ∧ w'.cell? ⟨g, o + n * 5 + 2, none⟩ = some (.int .u32 x2) ∧ w'.cell? ⟨g, o + n * 5 + 3, none⟩ = some (.int .u32 x3) ∧ w'.cell? ⟨g, o + n * 5 + 4, none⟩ = some (.int .u32 (x4 : Int))) := fun w' kk => by
          obtain ⟨a0, a1, a2, a3, a4⟩ := hcy w' kk
          exact ⟨a0, a1, a2, a3, a4, hc w' kk⟩
        clear hc hcy hatk hxm hm4
        replace hn0 := Lib.hid hn0
        replace hm := Lib.hid hm
        replace hy := Lib.hid hy
        replace hx' := Lib.hid hx'
        replace hLx := Lib.hid hLx
        go_wp2_with fail
        refine wp_region_held_drew (S := fun w' => w'.cell? ⟨g, o + m * 5, none⟩ = some (.int .u32 y0) ∧ w'.cell? ⟨g, o + m * 5 + 1, none⟩ = some (.int .u32 y1) ∧ w'.cell? ⟨g, o + m * 5 + 2, none⟩ = some (.int .u32 y2) ∧ w'.cell? ⟨g, o + m * 5 + 3, none⟩ = some (.int .u32 y3) ∧ w'.cell? ⟨g, o + m * 5 + 4, none⟩ = some (.int .u32 (y4 : Int)) ∧ w'.cell? ⟨g, o + n * 5, none⟩ = some (.int .u32 x0) ∧ w'.cell? ⟨g, o + n * 5 + 1, none⟩ = some (.int .u32 x1) ∧ w'.cell? ⟨g, o + n * 5 + 2, none⟩ = some (.int .u32 x2) ∧ w'.cell? ⟨g, o + n * 5 + 3, none⟩ = some (.int .u32 x3) ∧ w'.cell? ⟨g, o + n * 5 + 4, none⟩ = some (.int .u32 (x4 : Int))) (by kernel_rfl) (KP.out _ (Only.refl _ _).drew) (fun hHeld => ?_)
        refine held_take 0 (.slice (some ⟨g, o, none⟩) l.length c) rfl (by kernel_rfl) (by kernel_rfl) (by kernel_rfl) (fun _ _ _ h => h) hHeld (Or.inl ⟨by rfl, fun w' hSw => by (try dsimp only at hSw); (try subst hSw); go_simp⟩) ?_
        simp only [Act.put, List.setIfInBounds_toArray, List.set_cons_zero, List.set_cons_succ]
        refine held_take 1 (.int .i64 n) rfl (by kernel_rfl) (by kernel_rfl) (by kernel_rfl) (fun _ _ _ h => h) hHeld (Or.inl ⟨by rfl, fun w' hSw => by (try dsimp only at hSw); (try subst hSw); go_simp⟩) ?_
        simp only [Act.put, List.setIfInBounds_toArray, List.set_cons_zero, List.set_cons_succ]
        refine held_take 2 (.pointer (some ⟨g, o + n * 5, none⟩)) rfl (by kernel_rfl) (by kernel_rfl) (by kernel_rfl) (fun _ _ _ h => h) hHeld (Or.inl ⟨by rfl, fun w' hSw => by (try dsimp only at hSw); (try subst hSw); go_simp⟩) ?_
        simp only [Act.put, List.setIfInBounds_toArray, List.set_cons_zero, List.set_cons_succ]
        refine held_take 3 (.agg #[.int .u32 x0, .int .u32 x1, .int .u32 x2, .int .u32 x3, .int .u32 (x4 : Int)]) rfl (by kernel_rfl) (by kernel_rfl) (by kernel_rfl) (fun _ _ _ h => h) hHeld (Or.inl ⟨by rfl, fun w' hSw => by (try dsimp only at hSw); (try subst hSw); go_simp⟩) ?_
        simp only [Act.put, List.setIfInBounds_toArray, List.set_cons_zero, List.set_cons_succ]
        refine held_step 4 rfl (by kernel_rfl) (fun K hK => ?_)
        go_simp
        refine (hO.out _).mono ?_; rintro e w3 ⟨rfl, k3⟩; replace k3 := k3.undrew
        go_wp2_with fail
        refine hK.out _ _ (KP.out _ k3) (fun hHeld => ?_)
        clear hK K
        refine held_take 5 (.bool false) rfl (by kernel_rfl) (by kernel_rfl) (by kernel_rfl) (fun _ _ _ h => h) hHeld (Or.inl ⟨by rfl, fun w' hSw => by (try dsimp only at hSw); (try subst hSw); go_simp⟩) ?_
        simp only [Act.put, List.setIfInBounds_toArray, List.set_cons_zero, List.set_cons_succ]
        refine held_take 6 (.bool false) rfl (by kernel_rfl) (by kernel_rfl) (by kernel_rfl) (fun _ _ _ h => h) hHeld (Or.inl ⟨by rfl, fun w' hSw => by (try dsimp only at hSw); (try subst hSw); go_simp⟩) ?_
        simp only [Act.put, List.setIfInBounds_toArray, List.set_cons_zero, List.set_cons_succ]
        refine held_take 7 (.slice (some ⟨g, o, none⟩) l.length c) rfl (by kernel_rfl) (by kernel_rfl) (by kernel_rfl) (fun _ _ _ h => h) hHeld (Or.inl ⟨by rfl, fun w' hSw => by (try dsimp only at hSw); (try subst hSw); go_simp⟩) ?_
        simp only [Act.put, List.setIfInBounds_toArray, List.set_cons_zero, List.set_cons_succ]
        refine held_take 8 (.slice (some ⟨g, o, none⟩) l.length c) rfl (by kernel_rfl) (by kernel_rfl) (by kernel_rfl) (fun _ _ _ h => h) hHeld (Or.inl ⟨by rfl, fun w' hSw => by (try dsimp only at hSw); (try subst hSw); go_simp⟩) ?_
        simp only [Act.put, List.setIfInBounds_toArray, List.set_cons_zero, List.set_cons_succ]
        refine held_take 9 (.int .i64 n) rfl (by kernel_rfl) (by kernel_rfl) (by kernel_rfl) (fun _ _ _ h => h) hHeld (Or.inl ⟨by rfl, fun w' hSw => by (try dsimp only at hSw); (try subst hSw); go_simp⟩) ?_
        simp only [Act.put, List.setIfInBounds_toArray, List.set_cons_zero, List.set_cons_succ]
        refine held_take 10 (.pointer (some ⟨g, o + n * 5, none⟩)) rfl (by kernel_rfl) (by kernel_rfl) (by kernel_rfl) (fun _ _ _ h => h) hHeld (Or.inl ⟨by rfl, fun w' hSw => by (try dsimp only at hSw); (try subst hSw); go_simp⟩) ?_
        simp only [Act.put, List.setIfInBounds_toArray, List.set_cons_zero, List.set_cons_succ]
        refine held_take 11 (.pointer (some ⟨g, o + n * 5, none⟩)) rfl (by kernel_rfl) (by kernel_rfl) (by kernel_rfl) (fun _ _ _ h => h) hHeld (Or.inl ⟨by rfl, fun w' hSw => by (try dsimp only at hSw); (try subst hSw); go_simp⟩) ?_
        simp only [Act.put, List.setIfInBounds_toArray, List.set_cons_zero, List.set_cons_succ]
        refine held_take 12 (.int .u32 x0) rfl (by kernel_rfl) (by kernel_rfl) (by kernel_rfl) (fun _ _ _ h => h) hHeld (Or.inl ⟨by rfl, fun w' hSw => by (try dsimp only at hSw); (try subst hSw); go_simp⟩) ?_
        simp only [Act.put, List.setIfInBounds_toArray, List.set_cons_zero, List.set_cons_succ]
        refine held_step 13 rfl (by kernel_rfl) (fun K hK => ?_)
        go_simp
        refine (hMx.out _ (hk.trans k3)).mono ?_; rintro e w4 ⟨rfl, rfl⟩
        go_wp2_with fail
        refine hK.out _ _ (KP.out _ k3) (fun hHeld => ?_)
        clear hK K
        refine held_take 14 (.bool false) rfl (by kernel_rfl) (by kernel_rfl) (by kernel_rfl) (fun _ _ _ h => h) hHeld (Or.inl ⟨by rfl, fun w' hSw => by (try dsimp only at hSw); (try subst hSw); go_simp⟩) ?_
        simp only [Act.put, List.setIfInBounds_toArray, List.set_cons_zero, List.set_cons_succ]
        refine held_take 15 (.bool false) rfl (by kernel_rfl) (by kernel_rfl) (by kernel_rfl) (fun _ _ _ h => h) hHeld (Or.inl ⟨by rfl, fun w' hSw => by (try dsimp only at hSw); (try subst hSw); go_simp⟩) ?_
        simp only [Act.put, List.setIfInBounds_toArray, List.set_cons_zero, List.set_cons_succ]
        refine held_take 16 (.bool false) rfl (by kernel_rfl) (by kernel_rfl) (by kernel_rfl) (fun _ _ _ h => h) hHeld (Or.inl ⟨by rfl, fun w' hSw => by (try dsimp only at hSw); (try subst hSw); go_simp⟩) ?_
        simp only [Act.put, List.setIfInBounds_toArray, List.set_cons_zero, List.set_cons_succ]
        refine held_take 17 (.int .i64 n) rfl (by kernel_rfl) (by kernel_rfl) (by kernel_rfl) (fun _ _ _ h => h) hHeld (Or.inl ⟨by rfl, fun w' hSw => by (try dsimp only at hSw); (try subst hSw); go_simp⟩) ?_
        simp only [Act.put, List.setIfInBounds_toArray, List.set_cons_zero, List.set_cons_succ]
        refine held_take 18 (.bool true) rfl (by kernel_rfl) (by kernel_rfl) (by kernel_rfl) (fun _ _ _ h => h) hHeld (Or.inl ⟨by rfl, fun w' hSw => by (try dsimp only at hSw); (try subst hSw); go_simp⟩) ?_
        simp only [Act.put, List.setIfInBounds_toArray, List.set_cons_zero, List.set_cons_succ]
        refine held_take 19 (.bool true) rfl (by kernel_rfl) (by kernel_rfl) (by kernel_rfl) (fun _ _ _ h => h) hHeld (Or.inl ⟨by rfl, fun w' hSw => by (try dsimp only at hSw); (try subst hSw); go_simp⟩) ?_
        simp only [Act.put, List.setIfInBounds_toArray, List.set_cons_zero, List.set_cons_succ]
        refine held_take 20 (.slice (some ⟨g, o, none⟩) l.length c) rfl (by kernel_rfl) (by kernel_rfl) (by kernel_rfl) (fun _ _ _ h => h) hHeld (Or.inl ⟨by rfl, fun w' hSw => by (try dsimp only at hSw); (try subst hSw); go_simp⟩) ?_
        simp only [Act.put, List.setIfInBounds_toArray, List.set_cons_zero, List.set_cons_succ]
        refine held_take 21 (.int .i64 n) rfl (by kernel_rfl) (by kernel_rfl) (by kernel_rfl) (fun _ _ _ h => h) hHeld (Or.inl ⟨by rfl, fun w' hSw => by (try dsimp only at hSw); (try subst hSw); go_simp⟩) ?_
        simp only [Act.put, List.setIfInBounds_toArray, List.set_cons_zero, List.set_cons_succ]
        refine held_take 22 (.int .i64 m) rfl (by kernel_rfl) (by kernel_rfl) (by kernel_rfl) (fun _ _ _ h => h) hHeld (Or.inl ⟨by rfl, fun w' hSw => by (try dsimp only at hSw); (try subst hSw); go_simp⟩) ?_
        simp only [Act.put, List.setIfInBounds_toArray, List.set_cons_zero, List.set_cons_succ]
        refine held_take 23 (.pointer (some ⟨g, o + m * 5, none⟩)) rfl (by kernel_rfl) (by kernel_rfl) (by kernel_rfl) (fun _ _ _ h => h) hHeld (Or.inl ⟨by rfl, fun w' hSw => by (try dsimp only at hSw); (try subst hSw); go_simp⟩) ?_
        simp only [Act.put, List.setIfInBounds_toArray, List.set_cons_zero, List.set_cons_succ]
        refine held_take 24 (.agg #[.int .u32 y0, .int .u32 y1, .int .u32 y2, .int .u32 y3, .int .u32 (y4 : Int)]) rfl (by kernel_rfl) (by kernel_rfl) (by kernel_rfl) (fun _ _ _ h => h) hHeld (Or.inl ⟨by rfl, fun w' hSw => by (try dsimp only at hSw); (try subst hSw); go_simp⟩) ?_
        simp only [Act.put, List.setIfInBounds_toArray, List.set_cons_zero, List.set_cons_succ]
        refine held_take 25 (.slice (some ⟨g, o, none⟩) l.length c) rfl (by kernel_rfl) (by kernel_rfl) (by kernel_rfl) (fun _ _ _ h => h) hHeld (Or.inl ⟨by rfl, fun w' hSw => by (try dsimp only at hSw); (try subst hSw); go_simp⟩) ?_
        simp only [Act.put, List.setIfInBounds_toArray, List.set_cons_zero, List.set_cons_succ]
        refine held_take 26 (.int .i64 n) rfl (by kernel_rfl) (by kernel_rfl) (by kernel_rfl) (fun _ _ _ h => h) hHeld (Or.inl ⟨by rfl, fun w' hSw => by (try dsimp only at hSw); (try subst hSw); go_simp⟩) ?_
        simp only [Act.put, List.setIfInBounds_toArray, List.set_cons_zero, List.set_cons_succ]
        refine held_take 27 (.pointer (some ⟨g, o + n * 5, none⟩)) rfl (by kernel_rfl) (by kernel_rfl) (by kernel_rfl) (fun _ _ _ h => h) hHeld (Or.inl ⟨by rfl, fun w' hSw => by (try dsimp only at hSw); (try subst hSw); go_simp⟩) ?_
        simp only [Act.put, List.setIfInBounds_toArray, List.set_cons_zero, List.set_cons_succ]
        refine held_take 28 (.agg #[.int .u32 x0, .int .u32 x1, .int .u32 x2, .int .u32 x3, .int .u32 (x4 : Int)]) rfl (by kernel_rfl) (by kernel_rfl) (by kernel_rfl) (fun _ _ _ h => h) hHeld (Or.inl ⟨by rfl, fun w' hSw => by (try dsimp only at hSw); (try subst hSw); go_simp⟩) ?_
        simp only [Act.put, List.setIfInBounds_toArray, List.set_cons_zero, List.set_cons_succ]
        refine held_step 29 rfl (by kernel_rfl) (fun K hK => ?_)
        go_simp
        refine (hLx.out _).mono ?_; rintro e w5 ⟨rfl, k5⟩; replace k3 := k3.trans k5
        go_wp2_with fail
        refine hK.out _ _ (KP.out _ k3) (fun hHeld => ?_)
        clear hK K
        refine held_take 30 (.bool false) rfl (by kernel_rfl) (by kernel_rfl) (by kernel_rfl) (fun _ _ _ h => h) hHeld (Or.inl ⟨by rfl, fun w' hSw => by (try dsimp only at hSw); (try subst hSw); go_simp⟩) ?_
        simp only [Act.put, List.setIfInBounds_toArray, List.set_cons_zero, List.set_cons_succ]
        refine held_take 31 (.bool false) rfl (by kernel_rfl) (by kernel_rfl) (by kernel_rfl) (fun _ _ _ h => h) hHeld (Or.inl ⟨by rfl, fun w' hSw => by (try dsimp only at hSw); (try subst hSw); go_simp⟩) ?_
        simp only [Act.put, List.setIfInBounds_toArray, List.set_cons_zero, List.set_cons_succ]
        refine held_take 32 (.bool false) rfl (by kernel_rfl) (by kernel_rfl) (by kernel_rfl) (fun _ _ _ h => h) hHeld (Or.inl ⟨by rfl, fun w' hSw => by (try dsimp only at hSw); (try subst hSw); go_simp⟩) ?_
        simp only [Act.put, List.setIfInBounds_toArray, List.set_cons_zero, List.set_cons_succ]
        refine wpAnyH_done (by kernel_rfl) ?_ _
        clear hHeld
        clear hLx hx' hy hm hw KP
        go_wp2_with fail
        have hk3 := hk.trans k3
        clear k3 hk
        go_loopw [4] (fun i wq => ∃ k : Nat, k ≤ n ∧ i = .int .i64 k ∧ Hid (∀ j y, j < k → l[j]? = some y → ¬ clashO y ⟨x0, x1, x2, x3, x4⟩) ∧ Only [] w wq) (fun i _ => n - (intOf i).toNat)
        case atStart => exact ⟨0, by omega, rfl, fun j y h => by omega, hk3⟩
        case round =>
          clear hk3
          obtain ⟨k, hkn0, rfl, hcl, hk⟩ := hrel
          by_cases hkn : k < n
          · have hkl : k < l.length := by omega
            have hy : l[k]? = some l[k] := List.getElem?_eq_getElem hkl
            have hyv : validO l[k] := (hI.out.ok _ (by rw [List.mem_take_iff_getElem]; exact ⟨k, by omega, rfl⟩)).1
            have hCx := fun W => clash_any W l[k] _ hyv hv.out
            have hatq := hat.out.kept hk (by simp)
            have hcy := fun W (k' : Only [] wr W) => ops_at (hatq.kept k' (by simp)) hkl
            have hcx := fun W (k' : Only [] wr W) => ops_at (hatq.kept k' (by simp)) hlt
            have hxe : l[n] = _ := (List.getElem?_eq_some_iff.1 hx.out).2
            rw [hxe] at hcx
            clear hxe hatq
            generalize l[k] = y at *
            have hncl : ¬ clashO y ⟨x0, x1, x2, x3, x4⟩ → Hid (∀ j y, j < k + 1 → l[j]? = some y → ¬ clashO y ⟨x0, x1, x2, x3, x4⟩) := fun hc j z hj hz => by
              by_cases e : j = k
              · subst e
                rw [hy] at hz
                injection hz with hz
                subst hz
                exact hc
              · exact hcl.out j z (by omega) hz
            obtain ⟨y0, y1, y2, y3, y4⟩ := y
            unfold opV at hCx
            simp only at hCx hcy hcx
            have KP : Hid (∀ w', Only [] wr w' → w'.cell? ⟨g, o + k * 5, none⟩ = some (.int .u32 y0) ∧ w'.cell? ⟨g, o + k * 5 + 1, none⟩ = some (.int .u32 y1) ∧ w'.cell? ⟨g, o + k * 5 + 2, none⟩ = some (.int .u32 y2) ∧ w'.cell? ⟨g, o + k * 5 + 3, none⟩ = some (.int .u32 y3) ∧ w'.cell? ⟨g, o + k * 5 + 4, none⟩ = some (.int .u32 (y4 : Int)) ∧ w'.cell? ⟨g, o + n * 5, none⟩ = some (.int .u32 x0) ∧ w'.cell? ⟨g, o + n * 5 + 1, none⟩ = some (.int .u32 x1) ∧ w'.cell? ⟨g, o + n * 5 + 2, none⟩ = some (.int .u32 x2) ∧ w'.cell? ⟨g, o + n * 5 + 3, none⟩ = some (.int .u32 x3) ∧ w'.cell? ⟨g, o + n * 5 + 4, none⟩ = some (.int .u32 (x4 : Int))) := fun w' kk => by
              obtain ⟨a0, a1, a2, a3, a4⟩ := hcy w' kk
              exact ⟨a0, a1, a2, a3, a4, hcx w' kk⟩
            clear hcy hcx
            by_cases hcc : clashO ⟨y0, y1, y2, y3, y4⟩ ⟨x0, x1, x2, x3, x4⟩
            · obtain rfl := hno.out (not_calm hy hx.out hkn hcc)
              rw [decide_eq_true hcc] at hCx
              replace hCx := Lib.hid hCx
              replace hy := Lib.hid hy
              clear hncl hcc hyv
              go_wp2_with fail
              refine wp_region_held_drew (S := fun w' => w'.cell? ⟨g, o + k * 5, none⟩ = some (.int .u32 y0) ∧ w'.cell? ⟨g, o + k * 5 + 1, none⟩ = some (.int .u32 y1) ∧ w'.cell? ⟨g, o + k * 5 + 2, none⟩ = some (.int .u32 y2) ∧ w'.cell? ⟨g, o + k * 5 + 3, none⟩ = some (.int .u32 y3) ∧ w'.cell? ⟨g, o + k * 5 + 4, none⟩ = some (.int .u32 (y4 : Int)) ∧ w'.cell? ⟨g, o + n * 5, none⟩ = some (.int .u32 x0) ∧ w'.cell? ⟨g, o + n * 5 + 1, none⟩ = some (.int .u32 x1) ∧ w'.cell? ⟨g, o + n * 5 + 2, none⟩ = some (.int .u32 x2) ∧ w'.cell? ⟨g, o + n * 5 + 3, none⟩ = some (.int .u32 x3) ∧ w'.cell? ⟨g, o + n * 5 + 4, none⟩ = some (.int .u32 (x4 : Int))) (by kernel_rfl) (KP.out _ (Only.refl _ _).drew) (fun hHeld => ?_)
              refine held_take 0 (.slice (some ⟨g, o, none⟩) l.length c) rfl (by kernel_rfl) (by kernel_rfl) (by kernel_rfl) (fun _ _ _ h => h) hHeld (Or.inl ⟨by rfl, fun w' hSw => by (try dsimp only at hSw); (try subst hSw); go_simp⟩) ?_
              simp only [Act.put, List.setIfInBounds_toArray, List.set_cons_zero, List.set_cons_succ]
              refine held_take 1 (.int .i64 k) rfl (by kernel_rfl) (by kernel_rfl) (by kernel_rfl) (fun _ _ _ h => h) hHeld (Or.inl ⟨by rfl, fun w' hSw => by (try dsimp only at hSw); (try subst hSw); go_simp⟩) ?_
              simp only [Act.put, List.setIfInBounds_toArray, List.set_cons_zero, List.set_cons_succ]
              refine held_take 2 (.pointer (some ⟨g, o + k * 5, none⟩)) rfl (by kernel_rfl) (by kernel_rfl) (by kernel_rfl) (fun _ _ _ h => h) hHeld (Or.inl ⟨by rfl, fun w' hSw => by (try dsimp only at hSw); (try subst hSw); go_simp⟩) ?_
              simp only [Act.put, List.setIfInBounds_toArray, List.set_cons_zero, List.set_cons_succ]
              refine held_take 3 (.agg #[.int .u32 y0, .int .u32 y1, .int .u32 y2, .int .u32 y3, .int .u32 (y4 : Int)]) rfl (by kernel_rfl) (by kernel_rfl) (by kernel_rfl) (fun _ _ _ h => h) hHeld (Or.inl ⟨by rfl, fun w' hSw => by (try dsimp only at hSw); (try subst hSw); go_simp⟩) ?_
              simp only [Act.put, List.setIfInBounds_toArray, List.set_cons_zero, List.set_cons_succ]
              refine held_take 4 (.slice (some ⟨g, o, none⟩) l.length c) rfl (by kernel_rfl) (by kernel_rfl) (by kernel_rfl) (fun _ _ _ h => h) hHeld (Or.inl ⟨by rfl, fun w' hSw => by (try dsimp only at hSw); (try subst hSw); go_simp⟩) ?_
              simp only [Act.put, List.setIfInBounds_toArray, List.set_cons_zero, List.set_cons_succ]
              refine held_take 5 (.int .i64 n) rfl (by kernel_rfl) (by kernel_rfl) (by kernel_rfl) (fun _ _ _ h => h) hHeld (Or.inl ⟨by rfl, fun w' hSw => by (try dsimp only at hSw); (try subst hSw); go_simp⟩) ?_
              simp only [Act.put, List.setIfInBounds_toArray, List.set_cons_zero, List.set_cons_succ]
              refine held_take 6 (.pointer (some ⟨g, o + n * 5, none⟩)) rfl (by kernel_rfl) (by kernel_rfl) (by kernel_rfl) (fun _ _ _ h => h) hHeld (Or.inl ⟨by rfl, fun w' hSw => by (try dsimp only at hSw); (try subst hSw); go_simp⟩) ?_
              simp only [Act.put, List.setIfInBounds_toArray, List.set_cons_zero, List.set_cons_succ]
              refine held_take 7 (.agg #[.int .u32 x0, .int .u32 x1, .int .u32 x2, .int .u32 x3, .int .u32 (x4 : Int)]) rfl (by kernel_rfl) (by kernel_rfl) (by kernel_rfl) (fun _ _ _ h => h) hHeld (Or.inl ⟨by rfl, fun w' hSw => by (try dsimp only at hSw); (try subst hSw); go_simp⟩) ?_
              simp only [Act.put, List.setIfInBounds_toArray, List.set_cons_zero, List.set_cons_succ]
              refine held_step 8 rfl (by kernel_rfl) (fun K hK => ?_)
              go_simp
              refine (hCx.out _).mono ?_; rintro e w5 ⟨rfl, k5⟩; replace k5 := k5.undrew
              go_wp2_with fail
              refine hK.out _ _ (KP.out _ k5) (fun hHeld => ?_)
              clear hK K
              refine wpAnyH_done (by kernel_rfl) ?_ _
              clear hHeld
              go_wp2
              go_ret
              exact ⟨rfl, hk.trans k5⟩
            · have hnx := hncl hcc
              rw [decide_eq_false hcc] at hCx
              replace hCx := Lib.hid hCx
              replace hy := Lib.hid hy
              clear hncl hcc hyv
              go_wp2_with fail
              refine wp_region_held_drew (S := fun w' => w'.cell? ⟨g, o + k * 5, none⟩ = some (.int .u32 y0) ∧ w'.cell? ⟨g, o + k * 5 + 1, none⟩ = some (.int .u32 y1) ∧ w'.cell? ⟨g, o + k * 5 + 2, none⟩ = some (.int .u32 y2) ∧ w'.cell? ⟨g, o + k * 5 + 3, none⟩ = some (.int .u32 y3) ∧ w'.cell? ⟨g, o + k * 5 + 4, none⟩ = some (.int .u32 (y4 : Int)) ∧ w'.cell? ⟨g, o + n * 5, none⟩ = some (.int .u32 x0) ∧ w'.cell? ⟨g, o + n * 5 + 1, none⟩ = some (.int .u32 x1) ∧ w'.cell? ⟨g, o + n * 5 + 2, none⟩ = some (.int .u32 x2) ∧ w'.cell? ⟨g, o + n * 5 + 3, none⟩ = some (.int .u32 x3) ∧ w'.cell? ⟨g, o + n * 5 + 4, none⟩ = some (.int .u32 (x4 : Int))) (by kernel_rfl) (KP.out _ (Only.refl _ _).drew) (fun hHeld => ?_)
              refine held_take 0 (.slice (some ⟨g, o, none⟩) l.length c) rfl (by kernel_rfl) (by kernel_rfl) (by kernel_rfl) (fun _ _ _ h => h) hHeld (Or.inl ⟨by rfl, fun w' hSw => by (try dsimp only at hSw); (try subst hSw); go_simp⟩) ?_
              simp only [Act.put, List.setIfInBounds_toArray, List.set_cons_zero, List.set_cons_succ]
              refine held_take 1 (.int .i64 k) rfl (by kernel_rfl) (by kernel_rfl) (by kernel_rfl) (fun _ _ _ h => h) hHeld (Or.inl ⟨by rfl, fun w' hSw => by (try dsimp only at hSw); (try subst hSw); go_simp⟩) ?_
              simp only [Act.put, List.setIfInBounds_toArray, List.set_cons_zero, List.set_cons_succ]
              refine held_take 2 (.pointer (some ⟨g, o + k * 5, none⟩)) rfl (by kernel_rfl) (by kernel_rfl) (by kernel_rfl) (fun _ _ _ h => h) hHeld (Or.inl ⟨by rfl, fun w' hSw => by (try dsimp only at hSw); (try subst hSw); go_simp⟩) ?_
              simp only [Act.put, List.setIfInBounds_toArray, List.set_cons_zero, List.set_cons_succ]
              refine held_take 3 (.agg #[.int .u32 y0, .int .u32 y1, .int .u32 y2, .int .u32 y3, .int .u32 (y4 : Int)]) rfl (by kernel_rfl) (by kernel_rfl) (by kernel_rfl) (fun _ _ _ h => h) hHeld (Or.inl ⟨by rfl, fun w' hSw => by (try dsimp only at hSw); (try subst hSw); go_simp⟩) ?_
              simp only [Act.put, List.setIfInBounds_toArray, List.set_cons_zero, List.set_cons_succ]
              refine held_take 4 (.slice (some ⟨g, o, none⟩) l.length c) rfl (by kernel_rfl) (by kernel_rfl) (by kernel_rfl) (fun _ _ _ h => h) hHeld (Or.inl ⟨by rfl, fun w' hSw => by (try dsimp only at hSw); (try subst hSw); go_simp⟩) ?_
              simp only [Act.put, List.setIfInBounds_toArray, List.set_cons_zero, List.set_cons_succ]
              refine held_take 5 (.int .i64 n) rfl (by kernel_rfl) (by kernel_rfl) (by kernel_rfl) (fun _ _ _ h => h) hHeld (Or.inl ⟨by rfl, fun w' hSw => by (try dsimp only at hSw); (try subst hSw); go_simp⟩) ?_
              simp only [Act.put, List.setIfInBounds_toArray, List.set_cons_zero, List.set_cons_succ]
              refine held_take 6 (.pointer (some ⟨g, o + n * 5, none⟩)) rfl (by kernel_rfl) (by kernel_rfl) (by kernel_rfl) (fun _ _ _ h => h) hHeld (Or.inl ⟨by rfl, fun w' hSw => by (try dsimp only at hSw); (try subst hSw); go_simp⟩) ?_
              simp only [Act.put, List.setIfInBounds_toArray, List.set_cons_zero, List.set_cons_succ]
              refine held_take 7 (.agg #[.int .u32 x0, .int .u32 x1, .int .u32 x2, .int .u32 x3, .int .u32 (x4 : Int)]) rfl (by kernel_rfl) (by kernel_rfl) (by kernel_rfl) (fun _ _ _ h => h) hHeld (Or.inl ⟨by rfl, fun w' hSw => by (try dsimp only at hSw); (try subst hSw); go_simp⟩) ?_
              simp only [Act.put, List.setIfInBounds_toArray, List.set_cons_zero, List.set_cons_succ]
              refine held_step 8 rfl (by kernel_rfl) (fun K hK => ?_)
              go_simp
              refine (hCx.out _).mono ?_; rintro e w5 ⟨rfl, k5⟩; replace k5 := k5.undrew
              go_wp2_with fail
              refine hK.out _ _ (KP.out _ k5) (fun hHeld => ?_)
              clear hK K
              refine wpAnyH_done (by kernel_rfl) ?_ _
              clear hHeld
              go_wp2_with fail
              go_roundw
              case rel => exact ⟨k + 1, by omega, by go_num, hnx, hk.trans k5⟩
              case measure => simp [intOf]; omega
          · have hin : Hid (RInv l (n + 1)) := hI.out.succ hx.out hv.out hgood.out.few hgood.out.last (fun y hy => by
              rw [List.mem_take_iff_getElem] at hy
              obtain ⟨j, hj, rfl⟩ := hy
              exact hcl.out j _ (by omega) (List.getElem?_eq_getElem (by omega)))
            go_wp2_with fail
            go_roundw
            case rel => exact ⟨n + 1, by omega, by go_num, hin, hk⟩
            case measure => simp [intOf]; omega
      · have hres := hno.out (not_rise hy hx' hless)
        subst hres
        rw [decide_eq_false hless] at hLx
        clear hless
        obtain ⟨x0, x1, x2, x3, x4⟩ := x
        unfold opV at hO
        simp only at hO hc hMx d4 hm4'
        generalize mineN l x0 = mm at hMx d4
        replace hv := Lib.hid hv
        replace hx := Lib.hid hx
        replace hO := Lib.hid hO
        replace hMx := Lib.hid hMx
        replace hm4' := Lib.hid hm4'
        have hat := Lib.hid hat
        obtain ⟨y0, y1, y2, y3, y4⟩ := y
        unfold opV at hLx
        simp only at hLx hcy
        have KP : Hid (∀ w', Only [] wr w' → w'.cell? ⟨g, o + m * 5, none⟩ = some (.int .u32 y0) ∧ w'.cell? ⟨g, o + m * 5 + 1, none⟩ = some (.int .u32 y1) ∧ w'.cell? ⟨g, o + m * 5 + 2, none⟩ = some (.int .u32 y2) ∧ w'.cell? ⟨g, o + m * 5 + 3, none⟩ = some (.int .u32 y3) ∧ w'.cell? ⟨g, o + m * 5 + 4, none⟩ = some (.int .u32 (y4 : Int)) ∧ w'.cell? ⟨g, o + n * 5, none⟩ = some (.int .u32 x0) ∧ w'.cell? ⟨g, o + n * 5 + 1, none⟩ = some (.int .u32 x1) ∧ w'.cell? ⟨g, o + n * 5 + 2, none⟩ = some (.int .u32 x2) ∧ w'.cell? ⟨g, o + n * 5 + 3, none⟩ = some (.int .u32 x3) ∧ w'.cell? ⟨g, o + n * 5 + 4, none⟩ = some (.int .u32 (x4 : Int))) := fun w' kk => by
          obtain ⟨a0, a1, a2, a3, a4⟩ := hcy w' kk
          exact ⟨a0, a1, a2, a3, a4, hc w' kk⟩
        clear hc hcy hatk hxm hm4
        replace hn0 := Lib.hid hn0
        replace hm := Lib.hid hm
        replace hy := Lib.hid hy
        replace hx' := Lib.hid hx'
        replace hLx := Lib.hid hLx
        go_wp2_with fail
        refine wp_region_held_drew (S := fun w' => w'.cell? ⟨g, o + m * 5, none⟩ = some (.int .u32 y0) ∧ w'.cell? ⟨g, o + m * 5 + 1, none⟩ = some (.int .u32 y1) ∧ w'.cell? ⟨g, o + m * 5 + 2, none⟩ = some (.int .u32 y2) ∧ w'.cell? ⟨g, o + m * 5 + 3, none⟩ = some (.int .u32 y3) ∧ w'.cell? ⟨g, o + m * 5 + 4, none⟩ = some (.int .u32 (y4 : Int)) ∧ w'.cell? ⟨g, o + n * 5, none⟩ = some (.int .u32 x0) ∧ w'.cell? ⟨g, o + n * 5 + 1, none⟩ = some (.int .u32 x1) ∧ w'.cell? ⟨g, o + n * 5 + 2, none⟩ = some (.int .u32 x2) ∧ w'.cell? ⟨g, o + n * 5 + 3, none⟩ = some (.int .u32 x3) ∧ w'.cell? ⟨g, o + n * 5 + 4, none⟩ = some (.int .u32 (x4 : Int))) (by kernel_rfl) (KP.out _ (Only.refl _ _).drew) (fun hHeld => ?_)
        refine held_take 0 (.slice (some ⟨g, o, none⟩) l.length c) rfl (by kernel_rfl) (by kernel_rfl) (by kernel_rfl) (fun _ _ _ h => h) hHeld (Or.inl ⟨by rfl, fun w' hSw => by (try dsimp only at hSw); (try subst hSw); go_simp⟩) ?_
        simp only [Act.put, List.setIfInBounds_toArray, List.set_cons_zero, List.set_cons_succ]
        refine held_take 1 (.int .i64 n) rfl (by kernel_rfl) (by kernel_rfl) (by kernel_rfl) (fun _ _ _ h => h) hHeld (Or.inl ⟨by rfl, fun w' hSw => by (try dsimp only at hSw); (try subst hSw); go_simp⟩) ?_
        simp only [Act.put, List.setIfInBounds_toArray, List.set_cons_zero, List.set_cons_succ]
        refine held_take 2 (.pointer (some ⟨g, o + n * 5, none⟩)) rfl (by kernel_rfl) (by kernel_rfl) (by kernel_rfl) (fun _ _ _ h => h) hHeld (Or.inl ⟨by rfl, fun w' hSw => by (try dsimp only at hSw); (try subst hSw); go_simp⟩) ?_
        simp only [Act.put, List.setIfInBounds_toArray, List.set_cons_zero, List.set_cons_succ]
        refine held_take 3 (.agg #[.int .u32 x0, .int .u32 x1, .int .u32 x2, .int .u32 x3, .int .u32 (x4 : Int)]) rfl (by kernel_rfl) (by kernel_rfl) (by kernel_rfl) (fun _ _ _ h => h) hHeld (Or.inl ⟨by rfl, fun w' hSw => by (try dsimp only at hSw); (try subst hSw); go_simp⟩) ?_
        simp only [Act.put, List.setIfInBounds_toArray, List.set_cons_zero, List.set_cons_succ]
        refine held_step 4 rfl (by kernel_rfl) (fun K hK => ?_)
        go_simp
        refine (hO.out _).mono ?_; rintro e w3 ⟨rfl, k3⟩; replace k3 := k3.undrew
        go_wp2_with fail
        refine hK.out _ _ (KP.out _ k3) (fun hHeld => ?_)
        clear hK K
        refine held_take 5 (.bool false) rfl (by kernel_rfl) (by kernel_rfl) (by kernel_rfl) (fun _ _ _ h => h) hHeld (Or.inl ⟨by rfl, fun w' hSw => by (try dsimp only at hSw); (try subst hSw); go_simp⟩) ?_
        simp only [Act.put, List.setIfInBounds_toArray, List.set_cons_zero, List.set_cons_succ]
        refine held_take 6 (.bool false) rfl (by kernel_rfl) (by kernel_rfl) (by kernel_rfl) (fun _ _ _ h => h) hHeld (Or.inl ⟨by rfl, fun w' hSw => by (try dsimp only at hSw); (try subst hSw); go_simp⟩) ?_
        simp only [Act.put, List.setIfInBounds_toArray, List.set_cons_zero, List.set_cons_succ]
        refine held_take 7 (.slice (some ⟨g, o, none⟩) l.length c) rfl (by kernel_rfl) (by kernel_rfl) (by kernel_rfl) (fun _ _ _ h => h) hHeld (Or.inl ⟨by rfl, fun w' hSw => by (try dsimp only at hSw); (try subst hSw); go_simp⟩) ?_
        simp only [Act.put, List.setIfInBounds_toArray, List.set_cons_zero, List.set_cons_succ]
        refine held_take 8 (.slice (some ⟨g, o, none⟩) l.length c) rfl (by kernel_rfl) (by kernel_rfl) (by kernel_rfl) (fun _ _ _ h => h) hHeld (Or.inl ⟨by rfl, fun w' hSw => by (try dsimp only at hSw); (try subst hSw); go_simp⟩) ?_
        simp only [Act.put, List.setIfInBounds_toArray, List.set_cons_zero, List.set_cons_succ]
        refine held_take 9 (.int .i64 n) rfl (by kernel_rfl) (by kernel_rfl) (by kernel_rfl) (fun _ _ _ h => h) hHeld (Or.inl ⟨by rfl, fun w' hSw => by (try dsimp only at hSw); (try subst hSw); go_simp⟩) ?_
        simp only [Act.put, List.setIfInBounds_toArray, List.set_cons_zero, List.set_cons_succ]
        refine held_take 10 (.pointer (some ⟨g, o + n * 5, none⟩)) rfl (by kernel_rfl) (by kernel_rfl) (by kernel_rfl) (fun _ _ _ h => h) hHeld (Or.inl ⟨by rfl, fun w' hSw => by (try dsimp only at hSw); (try subst hSw); go_simp⟩) ?_
        simp only [Act.put, List.setIfInBounds_toArray, List.set_cons_zero, List.set_cons_succ]
        refine held_take 11 (.pointer (some ⟨g, o + n * 5, none⟩)) rfl (by kernel_rfl) (by kernel_rfl) (by kernel_rfl) (fun _ _ _ h => h) hHeld (Or.inl ⟨by rfl, fun w' hSw => by (try dsimp only at hSw); (try subst hSw); go_simp⟩) ?_
        simp only [Act.put, List.setIfInBounds_toArray, List.set_cons_zero, List.set_cons_succ]
        refine held_take 12 (.int .u32 x0) rfl (by kernel_rfl) (by kernel_rfl) (by kernel_rfl) (fun _ _ _ h => h) hHeld (Or.inl ⟨by rfl, fun w' hSw => by (try dsimp only at hSw); (try subst hSw); go_simp⟩) ?_
        simp only [Act.put, List.setIfInBounds_toArray, List.set_cons_zero, List.set_cons_succ]
        refine held_step 13 rfl (by kernel_rfl) (fun K hK => ?_)
        go_simp
        refine (hMx.out _ (hk.trans k3)).mono ?_; rintro e w4 ⟨rfl, rfl⟩
        go_wp2_with fail
        refine hK.out _ _ (KP.out _ k3) (fun hHeld => ?_)
        clear hK K
        refine held_take 14 (.bool false) rfl (by kernel_rfl) (by kernel_rfl) (by kernel_rfl) (fun _ _ _ h => h) hHeld (Or.inl ⟨by rfl, fun w' hSw => by (try dsimp only at hSw); (try subst hSw); go_simp⟩) ?_
        simp only [Act.put, List.setIfInBounds_toArray, List.set_cons_zero, List.set_cons_succ]
        refine held_take 15 (.bool false) rfl (by kernel_rfl) (by kernel_rfl) (by kernel_rfl) (fun _ _ _ h => h) hHeld (Or.inl ⟨by rfl, fun w' hSw => by (try dsimp only at hSw); (try subst hSw); go_simp⟩) ?_
        simp only [Act.put, List.setIfInBounds_toArray, List.set_cons_zero, List.set_cons_succ]
        refine held_take 16 (.bool false) rfl (by kernel_rfl) (by kernel_rfl) (by kernel_rfl) (fun _ _ _ h => h) hHeld (Or.inl ⟨by rfl, fun w' hSw => by (try dsimp only at hSw); (try subst hSw); go_simp⟩) ?_
        simp only [Act.put, List.setIfInBounds_toArray, List.set_cons_zero, List.set_cons_succ]
        refine held_take 17 (.int .i64 n) rfl (by kernel_rfl) (by kernel_rfl) (by kernel_rfl) (fun _ _ _ h => h) hHeld (Or.inl ⟨by rfl, fun w' hSw => by (try dsimp only at hSw); (try subst hSw); go_simp⟩) ?_
        simp only [Act.put, List.setIfInBounds_toArray, List.set_cons_zero, List.set_cons_succ]
        refine held_take 18 (.bool true) rfl (by kernel_rfl) (by kernel_rfl) (by kernel_rfl) (fun _ _ _ h => h) hHeld (Or.inl ⟨by rfl, fun w' hSw => by (try dsimp only at hSw); (try subst hSw); go_simp⟩) ?_
        simp only [Act.put, List.setIfInBounds_toArray, List.set_cons_zero, List.set_cons_succ]
        refine held_take 19 (.bool true) rfl (by kernel_rfl) (by kernel_rfl) (by kernel_rfl) (fun _ _ _ h => h) hHeld (Or.inl ⟨by rfl, fun w' hSw => by (try dsimp only at hSw); (try subst hSw); go_simp⟩) ?_
        simp only [Act.put, List.setIfInBounds_toArray, List.set_cons_zero, List.set_cons_succ]
        refine held_take 20 (.slice (some ⟨g, o, none⟩) l.length c) rfl (by kernel_rfl) (by kernel_rfl) (by kernel_rfl) (fun _ _ _ h => h) hHeld (Or.inl ⟨by rfl, fun w' hSw => by (try dsimp only at hSw); (try subst hSw); go_simp⟩) ?_
        simp only [Act.put, List.setIfInBounds_toArray, List.set_cons_zero, List.set_cons_succ]
        refine held_take 21 (.int .i64 n) rfl (by kernel_rfl) (by kernel_rfl) (by kernel_rfl) (fun _ _ _ h => h) hHeld (Or.inl ⟨by rfl, fun w' hSw => by (try dsimp only at hSw); (try subst hSw); go_simp⟩) ?_
        simp only [Act.put, List.setIfInBounds_toArray, List.set_cons_zero, List.set_cons_succ]
        refine held_take 22 (.int .i64 m) rfl (by kernel_rfl) (by kernel_rfl) (by kernel_rfl) (fun _ _ _ h => h) hHeld (Or.inl ⟨by rfl, fun w' hSw => by (try dsimp only at hSw); (try subst hSw); go_simp⟩) ?_
        simp only [Act.put, List.setIfInBounds_toArray, List.set_cons_zero, List.set_cons_succ]
        refine held_take 23 (.pointer (some ⟨g, o + m * 5, none⟩)) rfl (by kernel_rfl) (by kernel_rfl) (by kernel_rfl) (fun _ _ _ h => h) hHeld (Or.inl ⟨by rfl, fun w' hSw => by (try dsimp only at hSw); (try subst hSw); go_simp⟩) ?_
        simp only [Act.put, List.setIfInBounds_toArray, List.set_cons_zero, List.set_cons_succ]
        refine held_take 24 (.agg #[.int .u32 y0, .int .u32 y1, .int .u32 y2, .int .u32 y3, .int .u32 (y4 : Int)]) rfl (by kernel_rfl) (by kernel_rfl) (by kernel_rfl) (fun _ _ _ h => h) hHeld (Or.inl ⟨by rfl, fun w' hSw => by (try dsimp only at hSw); (try subst hSw); go_simp⟩) ?_
        simp only [Act.put, List.setIfInBounds_toArray, List.set_cons_zero, List.set_cons_succ]
        refine held_take 25 (.slice (some ⟨g, o, none⟩) l.length c) rfl (by kernel_rfl) (by kernel_rfl) (by kernel_rfl) (fun _ _ _ h => h) hHeld (Or.inl ⟨by rfl, fun w' hSw => by (try dsimp only at hSw); (try subst hSw); go_simp⟩) ?_
        simp only [Act.put, List.setIfInBounds_toArray, List.set_cons_zero, List.set_cons_succ]
        refine held_take 26 (.int .i64 n) rfl (by kernel_rfl) (by kernel_rfl) (by kernel_rfl) (fun _ _ _ h => h) hHeld (Or.inl ⟨by rfl, fun w' hSw => by (try dsimp only at hSw); (try subst hSw); go_simp⟩) ?_
        simp only [Act.put, List.setIfInBounds_toArray, List.set_cons_zero, List.set_cons_succ]
        refine held_take 27 (.pointer (some ⟨g, o + n * 5, none⟩)) rfl (by kernel_rfl) (by kernel_rfl) (by kernel_rfl) (fun _ _ _ h => h) hHeld (Or.inl ⟨by rfl, fun w' hSw => by (try dsimp only at hSw); (try subst hSw); go_simp⟩) ?_
        simp only [Act.put, List.setIfInBounds_toArray, List.set_cons_zero, List.set_cons_succ]
        refine held_take 28 (.agg #[.int .u32 x0, .int .u32 x1, .int .u32 x2, .int .u32 x3, .int .u32 (x4 : Int)]) rfl (by kernel_rfl) (by kernel_rfl) (by kernel_rfl) (fun _ _ _ h => h) hHeld (Or.inl ⟨by rfl, fun w' hSw => by (try dsimp only at hSw); (try subst hSw); go_simp⟩) ?_
        simp only [Act.put, List.setIfInBounds_toArray, List.set_cons_zero, List.set_cons_succ]
        refine held_step 29 rfl (by kernel_rfl) (fun K hK => ?_)
        go_simp
        refine (hLx.out _).mono ?_; rintro e w5 ⟨rfl, k5⟩; replace k3 := k3.trans k5
        go_wp2_with fail
        refine hK.out _ _ (KP.out _ k3) (fun hHeld => ?_)
        clear hK K
        refine held_take 30 (.bool true) rfl (by kernel_rfl) (by kernel_rfl) (by kernel_rfl) (fun _ _ _ h => h) hHeld (Or.inl ⟨by rfl, fun w' hSw => by (try dsimp only at hSw); (try subst hSw); go_simp⟩) ?_
        simp only [Act.put, List.setIfInBounds_toArray, List.set_cons_zero, List.set_cons_succ]
        refine held_take 31 (.bool true) rfl (by kernel_rfl) (by kernel_rfl) (by kernel_rfl) (fun _ _ _ h => h) hHeld (Or.inl ⟨by rfl, fun w' hSw => by (try dsimp only at hSw); (try subst hSw); go_simp⟩) ?_
        simp only [Act.put, List.setIfInBounds_toArray, List.set_cons_zero, List.set_cons_succ]
        refine held_take 32 (.bool true) rfl (by kernel_rfl) (by kernel_rfl) (by kernel_rfl) (fun _ _ _ h => h) hHeld (Or.inl ⟨by rfl, fun w' hSw => by (try dsimp only at hSw); (try subst hSw); go_simp⟩) ?_
        simp only [Act.put, List.setIfInBounds_toArray, List.set_cons_zero, List.set_cons_succ]
        refine wpAnyH_done (by kernel_rfl) ?_ _
        clear hHeld
        go_wp2
        go_ret
        exact ⟨rfl, hk.trans k3⟩
end Go.Proofs.Ythclpefomhakdaa
