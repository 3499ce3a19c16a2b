/- Rows of pages, as plain lists: what Load makes of rows, and what Changes make of them. -/
import Derived.Test.YtchlcmgdfbabdaaGreatDoorOpen7
import Derived.Test.YtchlcmgdfbabdaaGreatDoorChg7
namespace Go.Proofs.YtchlcmgdfbabdaaGreatDoor.Pgs
open Go.RowKit Go.Maps

def pgOf (c : Ch) : Pg := ⟨(((c.key.getD 5 0).toNat * 256 + (c.key.getD 6 0).toNat : Nat) : Int), c.val⟩
def ldO (U : List Ch) : List Pg := U.map pgOf
def all7 (U : List Ch) : Bool := U.all fun c => c.key.length == 7
def ldOk (U : List Ch) : Bool := all7 U && right (ldO U)
def ldL (U : List Ch) : List Pg := if ldOk U then ldO U else []
def fit7 (c : Ch) : Bool := (c.key.length == 7) && ((c.key.getD 5 0 == 0) && decide ((c.key.getD 6 0).toNat ≤ 31))
def pgOf2 (c : Ch) : Pg := ⟨((c.key.getD 6 0).toNat : Int), c.val⟩

theorem fit7_iff {c : Ch} : fit7 c = true ↔ c.key.length = 7 ∧ c.key.getD 5 0 = 0 ∧ (c.key.getD 6 0).toNat ≤ 31 := by
  unfold fit7
  simp only [Bool.and_eq_true, beq_iff_eq, decide_eq_true_eq]
theorem ldO_doc {U : List Ch} (h : U.all fit7 = true) : ldO U = U.map pgOf2 := by
  rw [List.all_eq_true] at h
  unfold ldO
  apply List.map_congr_left
  intro c hc
  obtain ⟨_, h5, _⟩ := fit7_iff.1 (h c hc)
  unfold pgOf pgOf2
  rw [h5]
  simp
theorem ldOk_doc (U : List Ch) : ldOk U = (U.all fit7 && right (U.map pgOf2)) := by
  cases h : U.all fit7 with
  | true =>
    have h7 : all7 U = true := by
      unfold all7
      rw [List.all_eq_true] at h ⊢
      intro c hc
      simpa using (fit7_iff.1 (h c hc)).1
    unfold ldOk
    rw [h7, ldO_doc h]
  | false =>
    rw [Bool.false_and]
    apply Bool.eq_false_iff.2
    intro hok
    unfold ldOk all7 at hok
    rw [Bool.and_eq_true, List.all_eq_true] at hok
    obtain ⟨h7, hr⟩ := hok
    have : U.all fit7 = true := by
      rw [List.all_eq_true]
      intro c hc
      have h1 := h7 c hc
      simp only [beq_iff_eq] at h1
      have h2 := okP_mem _ _ hr (pgOf c) (List.mem_map.2 ⟨c, hc, rfl⟩)
      have h3 : (((c.key.getD 5 0).toNat * 256 + (c.key.getD 6 0).toNat : Nat) : Int) < 32 := h2.2.1
      refine fit7_iff.2 ⟨h1, ?_, by omega⟩
      apply UInt8.toNat_inj.1
      show (c.key.getD 5 0).toNat = 0
      omega
    rw [h] at this
    cases this

theorem okP_of : ∀ (o : List Pg) (l : Int), (∀ q ∈ o, l < q.n ∧ q.n < 32 ∧ q.d.length = 32 ∧ allZ q.d = false) → o.Pairwise (fun a b => a.n < b.n) → okP l o = true
  | [], _, _, _ => rfl
  | p :: r, l, h, hp => by
    obtain ⟨h1, h2⟩ := List.pairwise_cons.1 hp
    obtain ⟨a1, a2, a3, a4⟩ := h p (by simp)
    refine okP_cons.2 ⟨a1, a2, a3, a4, okP_of r p.n (fun q hq => ⟨h1 q hq, (h q (by simp [hq])).2⟩) h2⟩
theorem find_of_mem : ∀ (o : List Pg) (l : Int) (q : Pg) (k : Nat), okP l o = true → q ∈ o → q.n = (k : Int) → find o k = q.d
  | [], _, _, _, _, hq, _ => by simp at hq
  | p :: r, l, q, k, h, hq, hk => by
    obtain ⟨_, _, _, _, h5⟩ := okP_cons.1 h
    rcases List.mem_cons.1 hq with rfl | hq
    · rw [find, if_pos hk]
    · have := (okP_mem r p.n h5 q hq).1
      rw [find, if_neg (by omega)]
      exact find_of_mem r p.n q k h5 hq hk

/-! Keys. -/
theorem ofNat_inj {a b : Nat} (ha : a < 256) (hb : b < 256) (h : UInt8.ofNat a = UInt8.ofNat b) : a = b := by
  have := congrArg UInt8.toNat h
  simpa [Nat.mod_eq_of_lt ha, Nat.mod_eq_of_lt hb] using this
theorem headB_inj {x y : Nat} (hx : x < 4294967296) (hy : y < 4294967296) (h : headB x = headB y) : x = y := by
  unfold headB b4 at h
  injection h with _ h
  injection h with h1 h
  injection h with h2 h
  injection h with h3 h
  injection h with h4 _
  have e1 := ofNat_inj (by omega) (by omega) h1
  have e2 := ofNat_inj (by omega) (by omega) h2
  have e3 := ofNat_inj (by omega) (by omega) h3
  have e4 := ofNat_inj (by omega) (by omega) h4
  omega
theorem keyF_inj {fl : List UInt8} {n m : Nat} (hn : n < 256) (hm : m < 256) (h : keyF fl n = keyF fl m) : n = m := by
  unfold keyF at h
  have h1 := List.append_cancel_left h
  injection h1 with _ h1
  injection h1 with h1 _
  exact ofNat_inj hn hm h1
theorem keyB_take (x n : Nat) : (keyB x n).take 5 = headB x := rfl
theorem pre_iff {p k : List UInt8} : preK p k = true ↔ p.length ≤ k.length ∧ k.take p.length = p := by
  unfold preK Lib.hasPrefix
  rw [List.isPrefixOf_iff_prefix, List.prefix_iff_eq_take]
  constructor
  · intro h
    exact ⟨by have := congrArg List.length h; rw [List.length_take] at this; omega, h.symm⟩
  · intro h
    exact h.2.symm
theorem pre_key (x n : Nat) : preK (headB x) (keyB x n) = true := pre_iff.2 ⟨by simp [headB_length, keyB_length], rfl⟩
theorem pre_two {x y : Nat} {k : List UInt8} (hx : x < 4294967296) (hy : y < 4294967296) (h : preK (headB x) k = true) (h' : preK (headB y) k = true) : x = y := by
  have h1 := (pre_iff.1 h).2
  have h2 := (pre_iff.1 h').2
  rw [headB_length] at h1 h2
  exact headB_inj hx hy (h1.symm.trans h2)

/-! What Changes find. -/
theorem hitL_snoc (l : List Ch) (c : Ch) (k : List UInt8) : hitL (l ++ [c]) k = (hitL l k).or (if c.key == k then some c else none) := by
  unfold hitL
  rw [List.find?_append]
  congr 1
  simp only [List.find?_cons, List.find?_nil]
  cases c.key == k <;> rfl
theorem hit_other (fl : List UInt8) (F G : Nat → List UInt8) (k : List UInt8) : ∀ K, (∀ n, n < K → k ≠ keyF fl n) → hitL (chgF fl F G K) k = none
  | 0, _ => rfl
  | K + 1, h => by
    have ih := hit_other fl F G k K (fun n hn => h n (by omega))
    have hk : (keyF fl K == k) = false := by
      rw [beq_eq_false_iff_ne]
      exact fun e => h K (by omega) e.symm
    rw [chgF]
    split
    · exact ih
    · split
      · rw [hitL_snoc, ih]; simp [hk]
      · rw [hitL_snoc, ih]; simp [hk]
theorem hit_page (fl : List UInt8) (F G : Nat → List UInt8) (n : Nat) : ∀ K, K ≤ 256 → n < K →
    hitL (chgF fl F G K) (keyF fl n) = if G n = F n then none else some (if allZ (G n) then ⟨keyF fl n, [], true⟩ else ⟨keyF fl n, G n, false⟩)
  | 0, _, h => absurd h (by omega)
  | K + 1, hK, hn => by
    by_cases hnK : n = K
    · subst hnK
      have ih := hit_other fl F G (keyF fl n) n (fun m hm e => by have := keyF_inj (by omega) (by omega) e; omega)
      rw [chgF]
      by_cases h1 : G n = F n
      · rw [if_pos h1, if_pos h1, ih]
      · rw [if_neg h1, if_neg h1]
        by_cases h2 : allZ (G n) = true
        · rw [if_pos h2, if_pos h2, hitL_snoc, ih]; simp
        · rw [if_neg h2, if_neg h2, hitL_snoc, ih]; simp
    · have ih := hit_page fl F G n K (by omega) (by omega)
      have hk : (keyF fl K == keyF fl n) = false := by
        rw [beq_eq_false_iff_ne]
        exact fun e => hnK (keyF_inj (by omega) (by omega) e).symm
      rw [chgF]
      split
      · exact ih
      · split
        · rw [hitL_snoc, ih]; simp [hk]
        · rw [hitL_snoc, ih]; simp [hk]
theorem chg_mem (fl : List UInt8) (F G : Nat → List UInt8) : ∀ K, K ≤ 256 → (∀ n, n < K → (G n).length = 32) → (∀ c ∈ chgF fl F G K, ∃ n, n < K ∧ c.key = keyF fl n ∧ c.val.length ≤ 32 ∧ (c.gone = true → c.val = [])) ∧ (chgF fl F G K).Pairwise fun a b => a.key ≠ b.key
  | 0, _, _ => ⟨fun c hc => by simp [chgF] at hc, List.Pairwise.nil⟩
  | K + 1, hK, hG => by
    obtain ⟨h1, h2⟩ := chg_mem fl F G K (by omega) (fun n hn => hG n (by omega))
    have hsnoc : ∀ c : Ch, c.key = keyF fl K → c.val.length ≤ 32 → (c.gone = true → c.val = []) → (∀ d ∈ chgF fl F G K ++ [c], ∃ n, n < K + 1 ∧ d.key = keyF fl n ∧ d.val.length ≤ 32 ∧ (d.gone = true → d.val = [])) ∧ (chgF fl F G K ++ [c]).Pairwise fun a b => a.key ≠ b.key := fun c q1 q2 q3 => by
      refine ⟨fun d hd => ?_, List.pairwise_append.2 ⟨h2, List.pairwise_singleton _ _, fun a ha b hb => ?_⟩⟩
      · rcases List.mem_append.1 hd with hd | hd
        · obtain ⟨n, hn, hr⟩ := h1 d hd
          exact ⟨n, by omega, hr⟩
        · simp only [List.mem_singleton] at hd
          subst hd
          exact ⟨K, by omega, q1, q2, q3⟩
      · simp only [List.mem_singleton] at hb
        subst hb
        obtain ⟨n, hn, hk, _⟩ := h1 a ha
        rw [hk, q1]
        exact fun e => by have := keyF_inj (by omega) (by omega) e; omega
    rw [chgF]
    split
    · exact ⟨fun c hc => by obtain ⟨n, hn, hr⟩ := h1 c hc; exact ⟨n, by omega, hr⟩, h2⟩
    · split
      · exact hsnoc _ rfl (by simp) (fun _ => rfl)
      · exact hsnoc _ rfl (by rw [hG K (by omega)]; exact Nat.le_refl _) (fun h => by cases h)

/-- The changes that lead from o to p, of file x. -/
def chgL (x : Nat) (o p : List Pg) : List Ch := chgF (headB x) (chunk (body o)) (chunk (body p)) 32
theorem chgL_mem {x : Nat} {o p : List Pg} (hp : right p = true) : (∀ c ∈ chgL x o p, ∃ n, n < 32 ∧ c.key = keyB x n ∧ c.val.length ≤ 32 ∧ (c.gone = true → c.val = [])) ∧ (chgL x o p).Pairwise fun a b => a.key ≠ b.key :=
  chg_mem (headB x) _ _ 32 (by decide) (fun n hn => chunk_len (body_len hp) hn)
theorem chgL_len (x : Nat) (o p : List Pg) : (chgL x o p).length ≤ 32 := chgF_len _ _ _ 32
theorem chgL_fit {x : Nat} {o p : List Pg} (hp : right p = true) : FitL (chgL x o p) := by
  obtain ⟨h1, h2⟩ := chgL_mem (x := x) (o := o) hp
  refine ⟨Nat.le_trans (chgL_len x o p) (by decide), fun i hi c hc => ?_⟩
  obtain ⟨n, hn, q1, q2, q3⟩ := h1 c (List.mem_of_getElem? hc)
  refine ⟨by rw [q1]; rfl, by omega, q3, ?_⟩
  rintro ⟨k, y, hk, hy, he⟩
  obtain ⟨hk1, rfl⟩ := List.getElem?_eq_some_iff.1 hy
  obtain ⟨hi1, rfl⟩ := List.getElem?_eq_some_iff.1 hc
  exact List.pairwise_iff_getElem.1 h2 k i hk1 hi1 hk he
theorem chgL_okay {x : Nat} {o p : List Pg} (hp : right p = true) : okayC (chgL x o p) := fun c hc => by
  obtain ⟨n, hn, q1, q2, _⟩ := (chgL_mem (x := x) (o := o) hp).1 c hc
  rw [q1, keyB_length]
  exact ⟨by decide, by omega⟩
theorem growth_le (M : List Rw) : ∀ l : List Ch, growthL M l ≤ l.length
  | [] => by simp [growthL]
  | c :: r => by
    have ih := growth_le M r
    have hs : stepC M c ≤ 1 := by unfold stepC; split <;> (try split) <;> omega
    rw [growthL, List.length_cons]
    omega

/-- The rows of M are, of file x, those of p. -/
structure Holds (M : List Rw) (x : Nat) (p : List Pg) : Prop where
  pages : ∀ n, n < 32 → getR M (keyB x n) = if allZ (find p n) then none else some (find p n)
  only : ∀ k, preK (headB x) k = true → (∀ n, n < 32 → k ≠ keyB x n) → getR M k = none
theorem holds_nil (x : Nat) : Holds [] x [] := ⟨fun n _ => by rw [find, allZ_zs]; rfl, fun _ _ _ => rfl⟩
theorem after_page {M : List Rw} {x n : Nat} {o p : List Pg} (ho : right o = true) (hp : right p = true) (hn : n < 32) : afterK (chgL x o p) M (keyB x n) = if find p n = find o n then getR M (keyB x n) else if allZ (find p n) then none else some (find p n) := by
  have h := hit_page (headB x) (chunk (body o)) (chunk (body p)) n 32 (by decide) hn
  rw [chunk_body ho hn, chunk_body hp hn] at h
  unfold afterK chgL
  rw [keyB_eq, h]
  by_cases h1 : find p n = find o n
  · rw [if_pos h1, if_pos h1]
  · rw [if_neg h1, if_neg h1]
    by_cases h2 : allZ (find p n) = true
    · rw [if_pos h2, if_pos h2]; rfl
    · rw [if_neg h2, if_neg h2]; rfl
theorem after_other {M : List Rw} {x : Nat} {o p : List Pg} {k : List UInt8} (h : ∀ n, n < 32 → k ≠ keyB x n) : afterK (chgL x o p) M k = getR M k := by
  unfold afterK chgL
  rw [hit_other (headB x) _ _ k 32 h]
theorem Holds.step {M M' : List Rw} {x : Nat} {o p : List Pg} (h : Holds M x o) (ho : right o = true) (hp : right p = true) (hM : ∀ k, getR M' k = afterK (chgL x o p) M k) : Holds M' x p := by
  refine ⟨fun n hn => ?_, fun k hk hne => ?_⟩
  · rw [hM, after_page ho hp hn]
    by_cases h1 : find p n = find o n
    · rw [if_pos h1, h.pages n hn, h1]
    · rw [if_neg h1]
  · rw [hM, after_other hne]
    exact h.only k hk hne
theorem Holds.other {M M' : List Rw} {x y : Nat} {o p q : List Pg} (hx : x < 4294967296) (hy : y < 4294967296) (hxy : x ≠ y) (h : Holds M y q) (hM : ∀ k, getR M' k = afterK (chgL x o p) M k) : Holds M' y q := by
  have hne : ∀ k, preK (headB y) k = true → ∀ n, n < 32 → k ≠ keyB x n := fun k hk n _ e => hxy (pre_two hx hy (by rw [e]; exact pre_key x n) hk)
  refine ⟨fun n hn => ?_, fun k hk hnn => ?_⟩
  · rw [hM, after_other (hne _ (pre_key y n))]
    exact h.pages n hn
  · rw [hM, after_other (hne k hk)]
    exact h.only k hk hnn
/-- All rows are of file x or y. -/
def Rest (M : List Rw) (x y : Nat) : Prop := ∀ k, preK (headB x) k = false → preK (headB y) k = false → getR M k = none
theorem rest_nil (x y : Nat) : Rest [] x y := fun _ _ _ => rfl
theorem Rest.step {M M' : List Rw} {x y z : Nat} {o p : List Pg} (h : Rest M x y) (hz : z = x ∨ z = y) (hM : ∀ k, getR M' k = afterK (chgL z o p) M k) : Rest M' x y := fun k hx hy => by
  rw [hM, after_other (fun n _ e => ?_)]
  · exact h k hx hy
  · have := pre_key z n
    rw [← e] at this
    rcases hz with rfl | rfl
    · rw [hx] at this; cases this
    · rw [hy] at this; cases this
theorem row_key {M : List Rw} {x : Nat} {p : List Pg} (hs : Sorted M) (h : Holds M x p) {r : Rw} (hr : r ∈ M) (hk : preK (headB x) r.key = true) : ∃ n, n < 32 ∧ r.key = keyB x n ∧ r.val = find p n ∧ allZ (find p n) = false := by
  have hg : getR M r.key = some r.val := by rw [getR, findR_of hs hr]; rfl
  have hn : ∃ n, n < 32 ∧ r.key = keyB x n := by
    apply Decidable.byContradiction
    intro hno
    rw [h.only r.key hk (fun n hn e => hno ⟨n, hn, e⟩)] at hg
    cases hg
  obtain ⟨n, hn, e⟩ := hn
  rw [e, h.pages n hn] at hg
  cases hz : allZ (find p n) with
  | true => rw [hz, if_pos rfl] at hg; cases hg
  | false =>
    rw [hz, if_neg (by simp)] at hg
    injection hg with hg
    exact ⟨n, hn, e, hg.symm, hz⟩
theorem few_rows {M : List Rw} {x y : Nat} {p q : List Pg} (hs : Sorted M) (h : Holds M x p) (h' : Holds M y q) (hr : Rest M x y) : M.length ≤ 64 := by
  have hn : (M.map Rw.key).Nodup := nodup_map_of hs.keys
  have := nodup_le (M.map Rw.key) ((List.range 32).map (keyB x) ++ (List.range 32).map (keyB y)) hn (fun k hk => by
    obtain ⟨r, hrm, rfl⟩ := List.mem_map.1 hk
    rw [List.mem_append]
    cases hx : preK (headB x) r.key with
    | true =>
      obtain ⟨n, hn, e, _⟩ := row_key hs h hrm hx
      exact .inl (List.mem_map.2 ⟨n, List.mem_range.2 hn, e.symm⟩)
    | false =>
      cases hy : preK (headB y) r.key with
      | true =>
        obtain ⟨n, hn, e, _⟩ := row_key hs h' hrm hy
        exact .inr (List.mem_map.2 ⟨n, List.mem_range.2 hn, e.symm⟩)
      | false =>
        have h1 := hr r.key hx hy
        rw [getR, findR_of hs hrm] at h1
        cases h1)
  simpa using this
/-- A commit of such changes is taken. -/
theorem puts_chg {N : Nat} {M M' : List Rw} {x : Nat} {o p : List Pg} {e : Int} (hp : right p = true) (hM : M.length + 32 ≤ N) (h : Puts N M (chgL x o p) e M') : e = 0 ∧ Good N M' ∧ ∀ k, getR M' k = afterK (chgL x o p) M k := by
  have hg := growth_le M (newsL M (chgL x o p))
  have hl : (newsL M (chgL x o p)).length ≤ 32 := Nat.le_trans (List.length_filter_le _ _) (chgL_len x o p)
  rcases h with ⟨h, _⟩ | ⟨_, h, _⟩ | ⟨_, _, h1, h2, h3⟩
  · exact absurd (chgL_fit hp) h
  · omega
  · exact ⟨h1, h2, h3⟩

theorem bb_cons (c : UInt8) (a b : List UInt8) : bytesBefore (c :: a) (c :: b) = bytesBefore a b := by
  have : ¬ c < c := UInt8.lt_irrefl c
  simp [bytesBefore, this]
theorem key_before {x n m : Nat} (hn : n < 256) (hm : m < 256) (h : bytesBefore (keyB x n) (keyB x m) = true) : n < m := by
  have e : ∀ k, keyB x k = 80 :: UInt8.ofNat (x / 16777216) :: UInt8.ofNat (x / 65536 % 256) :: UInt8.ofNat (x / 256 % 256) :: UInt8.ofNat (x % 256) :: 0 :: [UInt8.ofNat k] := fun k => rfl
  rw [e, e, bb_cons, bb_cons, bb_cons, bb_cons, bb_cons, bb_cons] at h
  simp only [bytesBefore, Bool.and_false, Bool.or_false, decide_eq_true_eq] at h
  have := UInt8.lt_iff_toNat_lt.1 h
  simpa [Nat.mod_eq_of_lt hn, Nat.mod_eq_of_lt hm] using this
theorem pgOf_key {x n : Nat} (hn : n < 32) (v : List UInt8) (g : Bool) : pgOf ⟨keyB x n, v, g⟩ = ⟨n, v⟩ := by
  have e : keyB x n = [80, UInt8.ofNat (x / 16777216), UInt8.ofNat (x / 65536 % 256), UInt8.ofNat (x / 256 % 256), UInt8.ofNat (x % 256), 0, UInt8.ofNat n] := rfl
  unfold pgOf
  rw [e]
  have : (UInt8.ofNat n).toNat = n := by simp; omega
  simp [this]
/-- What is loaded of such rows. -/
theorem Holds.load {N : Nat} {M : List Rw} {x : Nat} {p : List Pg} (hM : Good N M) (h : Holds M x p) (hp : right p = true) : ldOk (underL M (headB x)) = true ∧ ldL (underL M (headB x)) = p := by
  have hs := hM.sorted
  have hmem : ∀ q ∈ ldO (underL M (headB x)), ∃ r n, r ∈ M ∧ n < 32 ∧ r.key = keyB x n ∧ r.val = find p n ∧ allZ (find p n) = false ∧ q = ⟨n, find p n⟩ := fun q hq => by
    obtain ⟨c, hc, rfl⟩ := List.mem_map.1 hq
    obtain ⟨r, hr, rfl⟩ := List.mem_map.1 hc
    obtain ⟨h1, h2⟩ := List.mem_filter.1 hr
    obtain ⟨n, hn, e1, e2, e3⟩ := row_key hs h h1 h2
    refine ⟨r, n, h1, hn, e1, e2, e3, ?_⟩
    unfold chOf
    rw [e1, e2]
    exact pgOf_key hn _ _
  have hlen : ∀ n, (find p n).length = 32 := fun n => find_len p (-1) n hp
  have hright : right (ldO (underL M (headB x))) = true := by
    refine okP_of _ _ (fun q hq => ?_) ?_
    · obtain ⟨r, n, _, hn, _, _, hz, rfl⟩ := hmem q hq
      exact ⟨by simp only; omega, by simp only; omega, hlen n, hz⟩
    · unfold ldO underL
      rw [List.pairwise_map, List.pairwise_map]
      refine (hs.filter _).imp_of_mem ?_
      intro a b ha hb hab
      obtain ⟨a1, a2⟩ := List.mem_filter.1 ha
      obtain ⟨b1, b2⟩ := List.mem_filter.1 hb
      obtain ⟨n, hn, e1, e2, _⟩ := row_key hs h a1 a2
      obtain ⟨m, hm, e3, e4, _⟩ := row_key hs h b1 b2
      unfold chOf
      rw [e1, e3] at hab ⊢
      rw [pgOf_key hn, pgOf_key hm]
      have := key_before (by omega) (by omega) hab
      simp only
      omega
  have h7 : all7 (underL M (headB x)) = true := by
    unfold all7
    rw [List.all_eq_true]
    intro c hc
    obtain ⟨r, hr, rfl⟩ := List.mem_map.1 hc
    obtain ⟨h1, h2⟩ := List.mem_filter.1 hr
    obtain ⟨n, _, e1, _⟩ := row_key hs h h1 h2
    show (r.key.length == 7) = true
    rw [e1]
    rfl
  have hok : ldOk (underL M (headB x)) = true := by unfold ldOk; rw [h7, hright]; rfl
  refine ⟨hok, ?_⟩
  unfold ldL
  rw [if_pos hok]
  refine right_ext hright hp fun n hn => ?_
  cases hz : allZ (find p n) with
  | true =>
    rw [eq_zs32 hz (hlen n)]
    rcases find_mem (ldO (underL M (headB x))) n with h0 | ⟨q, hq, hqn, _⟩
    · exact h0
    · obtain ⟨r, m, _, hm, _, _, hzm, rfl⟩ := hmem q hq
      simp only at hqn
      have : m = n := by omega
      subst this
      rw [hz] at hzm
      cases hzm
  | false =>
    have hg := h.pages n hn
    rw [hz, if_neg (by simp), getR] at hg
    obtain ⟨r, hr, hv⟩ := Option.map_eq_some_iff.1 hg
    obtain ⟨hrm, hrk⟩ := findR_mem hr
    have hq : (⟨n, find p n⟩ : Pg) ∈ ldO (underL M (headB x)) := by
      refine List.mem_map.2 ⟨chOf r, List.mem_map.2 ⟨r, List.mem_filter.2 ⟨hrm, by rw [hrk]; exact pre_key x n⟩, rfl⟩, ?_⟩
      unfold chOf
      rw [hrk, hv]
      exact pgOf_key hn _ _
    exact find_of_mem _ _ _ n hright hq rfl

end Go.Proofs.YtchlcmgdfbabdaaGreatDoor.Pgs
