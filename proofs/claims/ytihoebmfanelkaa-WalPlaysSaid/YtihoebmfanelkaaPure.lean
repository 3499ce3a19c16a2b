/- The document's device as a state: what was settled, what was written since, the fuse, the death; and what each act makes of it. -/
import Derived.Test.YtihoebmfanelkaaApp
namespace Go.Proofs.Ytihoebmfanelkaa

theorem snoc_ind {α : Type} {p : List α → Prop} (h0 : p []) (h1 : ∀ l x, p l → p (l ++ [x])) : ∀ l, p l := fun l => by
  have h : ∀ r : List α, p r.reverse := by
    intro r
    induction r with
    | nil => exact h0
    | cons a r ih => rw [List.reverse_cons]; exact h1 _ _ ih
  have := h l.reverse
  rwa [List.reverse_reverse] at this

section
variable {α : Type}
theorem flat_len (c : Nat) : ∀ (L : List (List α)), (∀ b ∈ L, b.length = c) → L.flatten.length = L.length * c
  | [], _ => by simp
  | b :: L, h => by
    simp only [List.flatten_cons, List.length_append, List.length_cons, flat_len c L (fun x hx => h x (by simp [hx])), h b (by simp), Nat.succ_mul]
    omega

theorem flat_at (c : Nat) : ∀ (L : List (List α)) (k j : Nat) (b : List α) (v : α), (∀ b ∈ L, b.length = c) → L[k]? = some b → b[j]? = some v → L.flatten[k * c + j]? = some v
  | [], k, j, b, v, _, hk, _ => by simp at hk
  | x :: L, 0, j, b, v, h, hk, hj => by
    simp only [List.getElem?_cons_zero, Option.some.injEq] at hk
    subst hk
    have hl : j < x.length := (List.getElem?_eq_some_iff.1 hj).1
    rw [List.flatten_cons, Nat.zero_mul, Nat.zero_add, List.getElem?_append_left hl]
    exact hj
  | x :: L, k + 1, j, b, v, h, hk, hj => by
    rw [List.getElem?_cons_succ] at hk
    have hx := h x (by simp)
    rw [List.flatten_cons, List.getElem?_append_right (by rw [hx, Nat.succ_mul]; omega), hx]
    have e : (k + 1) * c + j - c = k * c + j := by rw [Nat.succ_mul]; omega
    rw [e]
    exact flat_at c L k j b v (fun y hy => h y (by simp [hy])) hk hj

theorem flat_set (c : Nat) : ∀ (L : List (List α)) (k : Nat) (b : List α), (∀ b ∈ L, b.length = c) → k < L.length → b.length = c →
    (L.set k b).flatten = L.flatten.take (k * c) ++ (b ++ L.flatten.drop (k * c + c))
  | [], k, b, _, hk, _ => by simp at hk
  | x :: L, 0, b, h, hk, hb => by
    have hx := h x (by simp)
    simp only [List.set_cons_zero, List.flatten_cons, Nat.zero_mul, List.take_zero, List.nil_append, Nat.zero_add]
    rw [List.drop_append, ← hx]
    simp
  | x :: L, k + 1, b, h, hk, hb => by
    have hx := h x (by simp)
    have t1 : (x ++ L.flatten).take (k * c + c) = x ++ L.flatten.take (k * c) := by
      rw [List.take_append, hx, List.take_of_length_le (l := x) (by omega)]
      congr 2
      omega
    have t2 : (x ++ L.flatten).drop (k * c + c + c) = L.flatten.drop (k * c + c) := by
      rw [List.drop_append, hx, List.drop_of_length_le (l := x) (by omega)]
      simp only [List.nil_append]
      congr 1
      omega
    rw [List.set_cons_succ, List.flatten_cons, flat_set c L k b (fun y hy => h y (by simp [hy])) (by simpa using hk) hb, List.flatten_cons, Nat.succ_mul, t1, t2, List.append_assoc]
end

structure St where
  firm : List (List UInt8)
  late : List (Nat × List UInt8)
  fuse : Int
  dead : Bool

/-- A block as it was written last. -/
def nowOf (d : List UInt8) (late : List (Nat × List UInt8)) (k : Nat) : List UInt8 := late.foldl (fun s x => if x.1 = k then x.2 else s) d
theorem nowOf_nil (d : List UInt8) (k : Nat) : nowOf d [] k = d := rfl
theorem nowOf_snoc (d : List UInt8) (l : List (Nat × List UInt8)) (x : Nat × List UInt8) (k : Nat) : nowOf d (l ++ [x]) k = if x.1 = k then x.2 else nowOf d l k := by simp [nowOf]

/-- One more than the place of a block's last write; 0: there is none. -/
def lastFrom (k : Nat) : Nat → Nat → List (Nat × List UInt8) → Nat
  | _, m, [] => m
  | i, m, x :: r => lastFrom k (i + 1) (if x.1 = k then i + 1 else m) r
def lastOf (late : List (Nat × List UInt8)) (k : Nat) : Nat := lastFrom k 0 0 late
theorem lastFrom_snoc (k : Nat) : ∀ (l : List (Nat × List UInt8)) (i m : Nat) (x : Nat × List UInt8), lastFrom k i m (l ++ [x]) = if x.1 = k then i + l.length + 1 else lastFrom k i m l
  | [], i, m, x => by simp [lastFrom]
  | y :: l, i, m, x => by
    rw [List.cons_append, lastFrom, lastFrom_snoc k l, lastFrom, List.length_cons]
    split <;> first | rfl | omega
theorem lastOf_nil (k : Nat) : lastOf [] k = 0 := rfl
theorem lastOf_snoc (l : List (Nat × List UInt8)) (x : Nat × List UInt8) (k : Nat) : lastOf (l ++ [x]) k = if x.1 = k then l.length + 1 else lastOf l k := by
  unfold lastOf
  rw [lastFrom_snoc]
  simp

theorem last_spec (d : List UInt8) (k : Nat) : ∀ (l : List (Nat × List UInt8)), (lastOf l k = 0 ∧ nowOf d l k = d ∧ ∀ x ∈ l, x.1 ≠ k) ∨ (0 < lastOf l k ∧ lastOf l k ≤ l.length ∧ l[lastOf l k - 1]? = some (k, nowOf d l k)) := by
  refine snoc_ind (.inl ⟨rfl, rfl, by simp⟩) ?_
  intro l x ih
  rw [lastOf_snoc, nowOf_snoc]
  by_cases hx : x.1 = k
  · right
    rw [if_pos hx, if_pos hx]
    refine ⟨by omega, by simp, ?_⟩
    simp [← hx]
  · rw [if_neg hx, if_neg hx]
    rcases ih with ⟨h1, h2, h3⟩ | ⟨h1, h2, h3⟩
    · left
      refine ⟨h1, h2, fun y hy => ?_⟩
      rcases List.mem_append.1 hy with hy | hy
      · exact h3 y hy
      · simp at hy; subst hy; exact hx
    · right
      refine ⟨h1, by simp; omega, ?_⟩
      rw [List.getElem?_append_left (by omega)]
      exact h3

/-- Is the i-th unsettled write kept? -/
def keepBit (keep i : Nat) : Bool := decide (keep / 2 ^ (i % 64) % 2 = 1)
/-- What is settled, once the writes from the i-th on are kept or undone. -/
def settleFrom (keep : Nat) : Nat → List (Nat × List UInt8) → List (List UInt8) → List (List UInt8)
  | _, [], f => f
  | i, x :: r, f => settleFrom keep (i + 1) r (if keepBit keep i then f.set x.1 x.2 else f)
theorem settleFrom_snoc (keep : Nat) : ∀ (l : List (Nat × List UInt8)) (i : Nat) (f : List (List UInt8)) (x : Nat × List UInt8),
    settleFrom keep i (l ++ [x]) f = if keepBit keep (i + l.length) then (settleFrom keep i l f).set x.1 x.2 else settleFrom keep i l f
  | [], i, f, x => by simp [settleFrom]
  | y :: l, i, f, x => by
    rw [List.cons_append, settleFrom, settleFrom_snoc keep l, settleFrom, List.length_cons]
    have e : i + 1 + l.length = i + (l.length + 1) := by omega
    rw [e]
def settle (keep : Nat) (l : List (Nat × List UInt8)) (f : List (List UInt8)) : List (List UInt8) := settleFrom keep 0 l f
theorem settle_nil (keep : Nat) (f : List (List UInt8)) : settle keep [] f = f := rfl
theorem settle_snoc (keep : Nat) (l : List (Nat × List UInt8)) (f : List (List UInt8)) (x : Nat × List UInt8) :
    settle keep (l ++ [x]) f = if keepBit keep l.length then (settle keep l f).set x.1 x.2 else settle keep l f := by
  unfold settle
  rw [settleFrom_snoc, Nat.zero_add]
theorem settle_length (keep : Nat) (f : List (List UInt8)) : ∀ l, (settle keep l f).length = f.length := by
  refine snoc_ind rfl ?_
  intro l x ih
  rw [settle_snoc]
  split <;> simp [ih]
/-- Every settled block is as it was, or as an unsettled write left it. -/
theorem settle_mem (keep : Nat) (f : List (List UInt8)) (k : Nat) (b : List UInt8) : ∀ l, (settle keep l f)[k]? = some b → f[k]? = some b ∨ (k, b) ∈ l := by
  refine snoc_ind (fun h => .inl h) ?_
  intro l x ih h
  rw [settle_snoc] at h
  split at h
  · rw [List.getElem?_set] at h
    split at h
    · rename_i hx
      subst hx
      split at h
      · right
        simp only [Option.some.injEq] at h
        subst h
        simp
      · cases h
    · rcases ih h with h | h
      · exact .inl h
      · exact .inr (by simp [h])
  · rcases ih h with h | h
    · exact .inl h
    · exact .inr (by simp [h])
/-- All writes kept: each block is as it was written last. -/
theorem keep_all (i : Nat) : keepBit 18446744073709551615 i = true := by
  unfold keepBit
  have h : i % 64 < 64 := Nat.mod_lt _ (by decide)
  generalize i % 64 = r at h
  have hall : ∀ r : Fin 64, decide (18446744073709551615 / 2 ^ r.val % 2 = 1) = true := by decide +kernel
  exact hall ⟨r, h⟩
theorem settle_all (f : List (List UInt8)) (k : Nat) (d : List UInt8) (hk : f[k]? = some d) : ∀ l, (settle 18446744073709551615 l f)[k]? = some (nowOf d l k) := by
  refine snoc_ind hk ?_
  intro l x ih
  rw [settle_snoc, keep_all, if_pos rfl, nowOf_snoc, List.getElem?_set]
  have hl : k < (settle 18446744073709551615 l f).length := (List.getElem?_eq_some_iff.1 ih).1
  by_cases hx : x.1 = k
  · rw [if_pos hx, if_pos hx, if_pos (by omega)]
  · rw [if_neg hx, if_neg hx]
    exact ih

/-- A step of the fuse. -/
def burns (s : St) : Bool := !(decide (s.fuse = 0) || s.dead)
def burnt (s : St) : St := if burns s then { s with fuse := if 0 < s.fuse then s.fuse - 1 else s.fuse } else { s with dead := true }
def hasBlock (n : Nat) (k : Int) : Bool := decide (0 ≤ k ∧ k < (n : Int))
def writeErr (s : St) (k : Int) (b : List UInt8) : Int := if (hasBlock s.firm.length k && decide (b.length = 256)) = false then 1 else if burns s = false then 5 else 0
def written (s : St) (k : Int) (b : List UInt8) : St :=
  if (hasBlock s.firm.length k && decide (b.length = 256)) = false then s else if burns s = false then burnt s else { burnt s with late := s.late ++ [(k.toNat, b)] }
def barErr (s : St) : Int := if burns s = false then 5 else 0
def settledAll (s : St) (keep : Nat) : St := { s with firm := settle keep s.late s.firm, late := [] }
def barred (s : St) : St := if burns s = false then burnt s else settledAll (burnt s) 18446744073709551615
def lit (s : St) (n : Int) : St := { s with fuse := n }
def crashed (s : St) (keep : Nat) : St := { settledAll s keep with fuse := -1, dead := false }
def readErr (s : St) (k : Int) : Int := if hasBlock s.firm.length k = false then 1 else if s.dead then 5 else 0
def readB (s : St) (k : Int) : List UInt8 := if hasBlock s.firm.length k = false then [] else if s.dead then [] else nowOf (s.firm.getD k.toNat []) s.late k.toNat
def firmB (s : St) (k : Int) : List UInt8 := if hasBlock s.firm.length k = false then [] else s.firm.getD k.toNat []

/-- A state that may be. -/
structure Fine (s : St) : Prop where
  pos : 1 ≤ s.firm.length
  few : s.firm.length ≤ 1024
  firm : ∀ b ∈ s.firm, b.length = 256
  late : ∀ x ∈ s.late, x.1 < s.firm.length ∧ x.2.length = 256
  lo : -9223372036854775808 ≤ s.fuse
  hi : s.fuse ≤ 9223372036854775807

theorem settle_fine (keep : Nat) (f : List (List UInt8)) (hf : ∀ b ∈ f, b.length = 256) : ∀ l : List (Nat × List UInt8), (∀ x ∈ l, x.1 < f.length ∧ x.2.length = 256) → ∀ b ∈ settle keep l f, b.length = 256 := by
  refine snoc_ind (fun _ => hf) ?_
  intro l x ih h b hb
  have ih' := ih (fun y hy => h y (by simp [hy]))
  rw [settle_snoc] at hb
  split at hb
  · rcases List.mem_or_eq_of_mem_set hb with hb | rfl
    · exact ih' b hb
    · exact (h x (by simp)).2
  · exact ih' b hb

theorem burnt_firm (s : St) : (burnt s).firm = s.firm := by unfold burnt; split <;> rfl
theorem burnt_late (s : St) : (burnt s).late = s.late := by unfold burnt; split <;> rfl
theorem Fine.burnt {s : St} (h : Fine s) : Fine (burnt s) := by
  obtain ⟨h1, h2, h3, h4, h5, h6⟩ := h
  unfold Go.Proofs.Ytihoebmfanelkaa.burnt
  split
  · refine ⟨h1, h2, h3, h4, ?_, ?_⟩
    · show -9223372036854775808 ≤ (if 0 < s.fuse then s.fuse - 1 else s.fuse)
      split <;> omega
    · show (if 0 < s.fuse then s.fuse - 1 else s.fuse) ≤ 9223372036854775807
      split <;> omega
  · exact ⟨h1, h2, h3, h4, h5, h6⟩
theorem Fine.settled {s : St} (h : Fine s) (keep : Nat) : Fine (settledAll s keep) :=
  ⟨by rw [settledAll, settle_length]; exact h.pos, by rw [settledAll, settle_length]; exact h.few, settle_fine keep s.firm h.firm s.late h.late, by simp [settledAll], h.lo, h.hi⟩
theorem Fine.written {s : St} (h : Fine s) (k : Int) (b : List UInt8) : Fine (written s k b) := by
  unfold Go.Proofs.Ytihoebmfanelkaa.written
  split
  · exact h
  · rename_i hk
    split
    · exact h.burnt
    · refine ⟨h.burnt.pos, h.burnt.few, h.burnt.firm, ?_, h.burnt.lo, h.burnt.hi⟩
      intro x hx
      simp only [burnt_firm]
      simp [hasBlock] at hk
      rcases List.mem_append.1 hx with hx | hx
      · exact h.late x hx
      · simp at hx
        subst hx
        exact ⟨by simp; omega, hk.2.2⟩
theorem Fine.barred {s : St} (h : Fine s) : Fine (barred s) := by
  unfold Go.Proofs.Ytihoebmfanelkaa.barred
  split
  · exact h.burnt
  · exact h.burnt.settled _
theorem Fine.lit {s : St} (h : Fine s) (n : Int) (h0 : -9223372036854775808 ≤ n) (h1 : n ≤ 9223372036854775807) : Fine (lit s n) := ⟨h.pos, h.few, h.firm, h.late, h0, h1⟩
theorem Fine.crashed {s : St} (h : Fine s) (keep : Nat) : Fine (crashed s keep) := by
  obtain ⟨h1, h2, h3, h4, _, _⟩ := h.settled keep
  exact ⟨h1, h2, h3, h4, by simp [Go.Proofs.Ytihoebmfanelkaa.crashed], by simp [Go.Proofs.Ytihoebmfanelkaa.crashed]⟩

/-- So many bytes of one kind. -/
def rep (n : Nat) (b : UInt8) : List UInt8 := List.replicate n b
theorem rep_length (n : Nat) (b : UInt8) : (rep n b).length = n := List.length_replicate
theorem rep_succ (n : Nat) (b : UInt8) : rep (n + 1) b = rep n b ++ [b] := List.replicate_succ'

/-- A new device. -/
def fresh (n : Nat) : St := ⟨List.replicate n (rep 256 0), [], -1, false⟩
theorem fresh_firm (n : Nat) : (fresh n).firm.length = n := List.length_replicate
theorem fresh_fine (n : Nat) (h0 : 1 ≤ n) (h1 : n ≤ 1024) : Fine (fresh n) := by
  refine ⟨by rw [fresh_firm]; exact h0, by rw [fresh_firm]; exact h1, ?_, ?_, (by decide : (-9223372036854775808 : Int) ≤ -1), (by decide : (-1 : Int) ≤ 9223372036854775807)⟩
  · intro b hb
    rw [(List.mem_replicate.1 hb).2, rep_length]
  · intro x hx
    cases hx
end Go.Proofs.Ytihoebmfanelkaa
