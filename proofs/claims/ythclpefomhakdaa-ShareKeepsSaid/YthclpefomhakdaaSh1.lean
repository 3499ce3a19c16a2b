/- Lists of opens, of no memory: whether they may be; what is added, dropped, cleared. -/
import Derived.Lib.Hide
namespace Go.Proofs.Ythclpefomhakdaa

/-- An open. -/
structure Opn where
  client : Int
  handle : Int
  file : Int
  access : Int
  deny : Nat
deriving DecidableEq
def zeroO : Opn := ⟨0, 0, 0, 0, 0⟩
theorem opn_ext {x y : Opn} (h0 : x.client = y.client) (h1 : x.handle = y.handle) (h2 : x.file = y.file) (h3 : x.access = y.access) (h4 : x.deny = y.deny) : x = y := by
  cases x; cases y; simp_all

theorem get_snoc {α : Type} {l : List α} {n : Nat} {x : α} (h : l[n]? = some x) : l.take (n + 1) = l.take n ++ [x] := by
  rw [List.take_add_one, h]; rfl

def validO (x : Opn) : Prop := x.client ≠ 0 ∧ x.file ≠ 0 ∧ 1 ≤ x.access ∧ x.access ≤ 3 ∧ x.deny ≤ 3
instance (x : Opn) : Decidable (validO x) := by unfold validO; exact inferInstance
def bitI (a b : Int) : Prop := (a % 2 = 1 ∧ b % 2 = 1) ∨ (a / 2 % 2 = 1 ∧ b / 2 % 2 = 1)
instance (a b : Int) : Decidable (bitI a b) := by unfold bitI; exact inferInstance
def clashO (x y : Opn) : Prop := x.file = y.file ∧ (bitI x.access y.deny ∨ bitI y.access x.deny)
instance (x y : Opn) : Decidable (clashO x y) := by unfold clashO; exact inferInstance
theorem clash_symm {x y : Opn} (h : clashO x y) : clashO y x := ⟨h.1.symm, h.2.symm⟩
def keyLt (x y : Opn) : Prop := x.client < y.client ∨ (x.client = y.client ∧ x.handle < y.handle)
instance (x y : Opn) : Decidable (keyLt x y) := by unfold keyLt; exact inferInstance
theorem keyLt_trans {x y z : Opn} (h : keyLt x y) (k : keyLt y z) : keyLt x z := by unfold keyLt at *; omega
theorem keyLt_irr (x : Opn) : ¬ keyLt x x := by unfold keyLt; omega
theorem keyLt_asymm {x y : Opn} (h : keyLt x y) : ¬ keyLt y x := by unfold keyLt at *; omega
theorem keyLt_tri {x y : Opn} (h : ¬ keyLt x y) (k : ¬ (x.client = y.client ∧ x.handle = y.handle)) : keyLt y x := by unfold keyLt at *; omega
def mineN (l : List Opn) (c : Int) : Nat := l.countP (fun x => decide (x.client = c))
theorem mineN_snoc (l : List Opn) (x : Opn) (c : Int) : mineN (l ++ [x]) c = mineN l c + (if x.client = c then 1 else 0) := by
  unfold mineN
  rw [List.countP_append]
  by_cases e : x.client = c <;> simp [e]
theorem mineN_le (l : List Opn) (c : Int) : mineN l c ≤ l.length := List.countP_le_length

/-- Whether a list may be. -/
structure RightP (l : List Opn) : Prop where
  len : l.length ≤ 12
  ok : ∀ x ∈ l, validO x
  few : ∀ x ∈ l, mineN l x.client ≤ 4
  rise : l.Pairwise keyLt
  calm : l.Pairwise (fun a b => ¬ clashO a b)
instance (l : List Opn) : Decidable (RightP l) :=
  decidable_of_iff (l.length ≤ 12 ∧ (∀ x ∈ l, validO x) ∧ (∀ x ∈ l, mineN l x.client ≤ 4) ∧ l.Pairwise keyLt ∧ l.Pairwise (fun a b => ¬ clashO a b))
    ⟨fun h => ⟨h.1, h.2.1, h.2.2.1, h.2.2.2.1, h.2.2.2.2⟩, fun h => ⟨h.len, h.ok, h.few, h.rise, h.calm⟩⟩
theorem right_nil : RightP [] := ⟨by simp, by simp, by simp, .nil, .nil⟩
theorem RightP.sub {l m : List Opn} (h : RightP l) (s : m.Sublist l) : RightP m :=
  ⟨Nat.le_trans s.length_le h.len, fun x hx => h.ok x (s.subset hx), fun x hx => Nat.le_trans s.countP_le (h.few x (s.subset hx)), h.rise.sublist s, h.calm.sublist s⟩
theorem RightP.perm_few {l m : List Opn} (p : l.Perm m) (c : Int) : mineN l c = mineN m c := p.countP_eq _

/-- One more at the end. -/
structure StepP (l : List Opn) (x : Opn) : Prop where
  ok : validO x
  len : l.length < 12
  few : mineN l x.client < 4
  calm : ∀ y ∈ l, ¬ clashO x y
  last : ∀ y, l.getLast? = some y → keyLt y x
theorem last_all {l : List Opn} (h : l.Pairwise keyLt) {x : Opn} (k : ∀ y, l.getLast? = some y → keyLt y x) : ∀ y ∈ l, keyLt y x := by
  intro y hy
  cases hl : l.getLast? with
  | none =>
    rw [List.getLast?_eq_none_iff] at hl
    subst hl
    simp at hy
  | some z =>
    obtain ⟨ys, rfl⟩ := List.getLast?_eq_some_iff.1 hl
    have hz := k z hl
    rw [List.mem_append, List.mem_singleton] at hy
    rcases hy with hy | rfl
    · exact keyLt_trans ((List.pairwise_append.1 h).2.2 y hy z (by simp)) hz
    · exact hz
theorem right_snoc {l : List Opn} {x : Opn} : RightP (l ++ [x]) ↔ RightP l ∧ StepP l x := by
  constructor
  · intro h
    have hl := h.sub (List.sublist_append_left l [x])
    refine ⟨hl, h.ok x (by simp), by have := h.len; simp at this; omega, ?_, ?_, ?_⟩
    · have := h.few x (by simp)
      rw [mineN_snoc, if_pos rfl] at this
      omega
    · intro y hy hc
      exact (List.pairwise_append.1 h.calm).2.2 y hy x (by simp) (clash_symm hc)
    · intro y hy
      exact (List.pairwise_append.1 h.rise).2.2 y (List.mem_of_getLast? hy) x (by simp)
  · rintro ⟨h, s⟩
    have hlast := last_all h.rise s.last
    refine ⟨by have := s.len; simp; omega, ?_, ?_, ?_, ?_⟩
    · intro y hy
      rw [List.mem_append, List.mem_singleton] at hy
      rcases hy with hy | rfl
      · exact h.ok y hy
      · exact s.ok
    · intro y hy
      rw [mineN_snoc]
      have hs := s.few
      by_cases e : x.client = y.client
      · rw [if_pos e, ← e]
        omega
      · rw [if_neg e]
        rw [List.mem_append, List.mem_singleton] at hy
        rcases hy with hy | rfl
        · exact h.few y hy
        · exact absurd rfl e
    · rw [List.pairwise_append]
      exact ⟨h.rise, by simp, fun y hy z hz => by rw [List.mem_singleton] at hz; subst hz; exact hlast y hy⟩
    · rw [List.pairwise_append]
      exact ⟨h.calm, by simp, fun y hy z hz hc => by rw [List.mem_singleton] at hz; subst hz; exact s.calm y hy (clash_symm hc)⟩
theorem right_take_succ {l : List Opn} {n : Nat} {x : Opn} (h : l[n]? = some x) : RightP (l.take (n + 1)) ↔ RightP (l.take n) ∧ StepP (l.take n) x := by
  rw [get_snoc h]; exact right_snoc
theorem RightP.take {l : List Opn} (h : RightP l) (n : Nat) : RightP (l.take n) := h.sub (List.take_sublist n l)

/-! Found by client and handle. -/
def isK (c h : Int) (x : Opn) : Bool := decide (x.client = c ∧ x.handle = h)
theorem isK_iff {c h : Int} {x : Opn} : isK c h x = true ↔ x.client = c ∧ x.handle = h := by simp [isK]
def findK (l : List Opn) (c h : Int) : Option Opn := l.find? (isK c h)
theorem findK_some {l : List Opn} {c h : Int} {x : Opn} (e : findK l c h = some x) : x ∈ l ∧ x.client = c ∧ x.handle = h := ⟨List.mem_of_find?_eq_some e, isK_iff.1 (List.find?_some e)⟩
theorem findK_none {l : List Opn} {c h : Int} (e : findK l c h = none) : ∀ x ∈ l, ¬ (x.client = c ∧ x.handle = h) := fun x hx k => (List.find?_eq_none.1 e x hx) (isK_iff.2 k)
theorem findK_none_of {l : List Opn} {c h : Int} (e : ∀ x ∈ l, ¬ (x.client = c ∧ x.handle = h)) : findK l c h = none := List.find?_eq_none.2 fun x hx k => e x hx (isK_iff.1 k)
theorem key_inj {l : List Opn} (h : l.Pairwise keyLt) {x y : Opn} (hx : x ∈ l) (hy : y ∈ l) (e1 : x.client = y.client) (e2 : x.handle = y.handle) : x = y := by
  obtain ⟨i, hi, rfl⟩ := List.getElem_of_mem hx
  obtain ⟨j, hj, rfl⟩ := List.getElem_of_mem hy
  rw [List.pairwise_iff_getElem] at h
  rcases Nat.lt_trichotomy i j with a | a | a
  · have := h i j hi hj a
    unfold keyLt at this
    omega
  · subst a; rfl
  · have := h j i hj hi a
    unfold keyLt at this
    omega
theorem findK_mem {l : List Opn} (h : l.Pairwise keyLt) {x : Opn} (hx : x ∈ l) : findK l x.client x.handle = some x := by
  cases e : findK l x.client x.handle with
  | none => exact absurd ⟨rfl, rfl⟩ (findK_none e x hx)
  | some y =>
    obtain ⟨h1, h2, h3⟩ := findK_some e
    rw [key_inj h h1 hx h2 h3]

/-- What lies ahead of a key. -/
def posO (l : List Opn) (t : Opn) : Nat := l.countP (fun x => decide (keyLt x t))
theorem posO_le (l : List Opn) (t : Opn) : posO l t ≤ l.length := List.countP_le_length
theorem posO_iff {l : List Opn} (h : l.Pairwise keyLt) {t : Opn} : ∀ {j : Nat} {x : Opn}, l[j]? = some x → (keyLt x t ↔ j < posO l t) := by
  induction l with
  | nil => intro j x hx; simp at hx
  | cons a r ih =>
    rw [List.pairwise_cons] at h
    intro j x hx
    unfold posO
    rw [List.countP_cons]
    have hz : ¬ keyLt a t → r.countP (fun x => decide (keyLt x t)) = 0 := fun e => by
      rw [List.countP_eq_zero]
      intro y hy
      have := h.1 y hy
      simp only [decide_eq_true_eq]
      exact fun q => e (keyLt_trans this q)
    cases j with
    | zero =>
      simp only [List.getElem?_cons_zero, Option.some.injEq] at hx
      subst hx
      by_cases e : keyLt a t
      · simp [e]
      · rw [hz e]
        simp [e]
    | succ j =>
      simp only [List.getElem?_cons_succ] at hx
      have := ih h.2 hx
      unfold posO at this
      by_cases e : keyLt a t
      · simp [e]
        omega
      · have hax := h.1 x (List.mem_of_getElem? hx)
        rw [hz e]
        simp [e]
        exact fun q => e (keyLt_trans hax q)
theorem findK_pos {l : List Opn} (h : l.Pairwise keyLt) {t x : Opn} (hx : findK l t.client t.handle = some x) : l[posO l t]? = some x := by
  obtain ⟨h1, h2, h3⟩ := findK_some hx
  obtain ⟨j, hj, rfl⟩ := List.getElem_of_mem h1
  have hjx : l[j]? = some l[j] := List.getElem?_eq_getElem hj
  have hn : ¬ j < posO l t := fun e => by have := (posO_iff h hjx).2 e; unfold keyLt at this; omega
  have hp' : l[posO l t]? = some (l[posO l t]'(by omega)) := List.getElem?_eq_getElem (by omega)
  rw [hp']
  have h4 : ¬ keyLt (l[posO l t]'(by omega)) t := fun e => by have := (posO_iff h hp').1 e; omega
  rcases Nat.lt_or_ge (posO l t) j with e | e
  · have := (List.pairwise_iff_getElem.1 h) (posO l t) j (by omega) hj e
    unfold keyLt at this h4
    omega
  · have e' : posO l t = j := by omega
    simp only [e']
theorem findK_at {l : List Opn} (h : l.Pairwise keyLt) (t : Opn) : findK l t.client t.handle = match l[posO l t]? with | some x => if x.client = t.client ∧ x.handle = t.handle then some x else none | none => none := by
  cases hg : findK l t.client t.handle with
  | some x =>
    obtain ⟨_, h2, h3⟩ := findK_some hg
    rw [findK_pos h hg]
    simp [h2, h3]
  | none =>
    cases hp : l[posO l t]? with
    | none => rfl
    | some x =>
      have := findK_none hg x (List.mem_of_getElem? hp)
      simp [this]

/-- The list with one more. -/
def putO (l : List Opn) (o : Opn) : List Opn := l.take (posO l o) ++ o :: l.drop (posO l o)
theorem put_perm (l : List Opn) (o : Opn) : (putO l o).Perm (o :: l) := by
  have h := List.perm_middle (a := o) (l₁ := l.take (posO l o)) (l₂ := l.drop (posO l o))
  rwa [List.take_append_drop] at h
theorem put_rise {l : List Opn} {o : Opn} (h : l.Pairwise keyLt) (hn : findK l o.client o.handle = none) : (putO l o).Pairwise keyLt := by
  unfold putO
  have hs : (l.take (posO l o) ++ l.drop (posO l o)).Pairwise keyLt := by rwa [List.take_append_drop]
  rw [List.pairwise_append] at hs ⊢
  have ha : ∀ a ∈ l.take (posO l o), keyLt a o := fun a ha => by
    obtain ⟨j, hj, rfl⟩ := List.getElem_of_mem ha
    rw [List.length_take] at hj
    have hx : l[j]? = some l[j] := List.getElem?_eq_getElem (by omega)
    have := (posO_iff h (t := o) hx).2 (by omega)
    simpa using this
  have hb : ∀ b ∈ l.drop (posO l o), keyLt o b := fun b hb => by
    obtain ⟨j, hj, rfl⟩ := List.getElem_of_mem hb
    rw [List.length_drop] at hj
    have hx : l[posO l o + j]? = some (l[posO l o + j]'(by omega)) := List.getElem?_eq_getElem (by omega)
    have h1 : ¬ keyLt (l[posO l o + j]'(by omega)) o := fun e => by have := (posO_iff h hx).1 e; omega
    have h2 := keyLt_tri h1 (findK_none hn _ (List.mem_of_getElem? hx))
    simpa using h2
  refine ⟨hs.1, List.pairwise_cons.2 ⟨hb, hs.2.1⟩, fun a h1 b h2 => ?_⟩
  rw [List.mem_cons] at h2
  rcases h2 with rfl | h2
  · exact ha a h1
  · exact hs.2.2 a h1 b h2
theorem sorted_eq {l m : List Opn} (h : l.Pairwise keyLt) (k : m.Pairwise keyLt) (p : l.Perm m) : l = m :=
  List.Perm.eq_of_pairwise (fun _ _ _ _ h1 h2 => absurd h2 (keyLt_asymm h1)) h k p

/-- Why one more is not added; 0: it is. -/
def addC (l : List Opn) (o : Opn) : Int :=
  if ¬ (RightP l ∧ validO o) then 1 else if (findK l o.client o.handle).isSome then 8 else if 12 ≤ l.length ∨ 4 ≤ mineN l o.client then 16 else if ∃ y ∈ l, clashO o y then 13 else 0
def addR (l : List Opn) (o : Opn) : List Opn × Int := if addC l o = 0 then (putO l o, 0) else ([], addC l o)
structure MayAdd (l : List Opn) (o : Opn) : Prop where
  right : RightP l
  ok : validO o
  none : findK l o.client o.handle = none
  len : l.length < 12
  few : mineN l o.client < 4
  calm : ∀ y ∈ l, ¬ clashO o y
theorem addC_zero {l : List Opn} {o : Opn} : addC l o = 0 ↔ MayAdd l o := by
  unfold addC
  constructor
  · intro h
    split at h
    · omega
    rename_i h1
    split at h
    · omega
    rename_i h2
    split at h
    · omega
    rename_i h3
    split at h
    · omega
    rename_i h4
    rw [Classical.not_not] at h1
    refine ⟨h1.1, h1.2, by simpa using h2, by omega, by omega, fun y hy hc => h4 ⟨y, hy, hc⟩⟩
  · intro h
    rw [if_neg (by simp [h.right, h.ok]), if_neg (by simp [h.none]), if_neg (by have := h.len; have := h.few; omega), if_neg (fun ⟨y, hy, hc⟩ => h.calm y hy hc)]
theorem addR_snd (l : List Opn) (o : Opn) : (addR l o).2 = addC l o := by
  unfold addR
  split <;> simp_all
theorem addR_ok {l : List Opn} {o : Opn} (h : addC l o = 0) : addR l o = (putO l o, 0) := by unfold addR; rw [if_pos h]
theorem addR_no {l : List Opn} {o : Opn} (h : ¬ addC l o = 0) : addR l o = ([], addC l o) := by unfold addR; rw [if_neg h]
theorem MayAdd.put {l : List Opn} {o : Opn} (h : MayAdd l o) : RightP (putO l o) := by
  have p := put_perm l o
  have hc : ∀ c, mineN (putO l o) c = mineN l c + (if o.client = c then 1 else 0) := fun c => by
    rw [RightP.perm_few p]
    unfold mineN
    rw [List.countP_cons]
    by_cases e : o.client = c <;> simp [e]
  refine ⟨by have := p.length_eq; have := h.len; simp at *; omega, ?_, ?_, put_rise h.right.rise h.none, ?_⟩
  · intro x hx
    rw [p.mem_iff, List.mem_cons] at hx
    rcases hx with rfl | hx
    · exact h.ok
    · exact h.right.ok x hx
  · intro x hx
    rw [hc]
    rw [p.mem_iff, List.mem_cons] at hx
    have := h.few
    by_cases e : o.client = x.client
    · rw [if_pos e, ← e]; omega
    · rw [if_neg e]
      rcases hx with rfl | hx
      · exact absurd rfl e
      · exact h.right.few x hx
  · rw [p.pairwise_iff (fun hxy hyx => hxy (clash_symm hyx)), List.pairwise_cons]
    exact ⟨h.calm, h.right.calm⟩
/-- Whatever is right, and has just one more, is what is added. -/
theorem may_of {l L : List Opn} {o : Opn} (hl : RightP l) (hL : RightP L) (p : L.Perm (o :: l)) : MayAdd l o ∧ putO l o = L := by
  have ho : o ∈ L := by rw [p.mem_iff]; simp
  have hn : findK l o.client o.handle = none := by
    refine findK_none_of fun x hx e => ?_
    have hm := p.pairwise_iff (R := fun a b : Opn => ¬ (a.client = b.client ∧ a.handle = b.handle)) (fun h1 h2 => h1 ⟨h2.1.symm, h2.2.symm⟩)
    have h0 : L.Pairwise (fun a b : Opn => ¬ (a.client = b.client ∧ a.handle = b.handle)) := hL.rise.imp (fun h => by unfold keyLt at h; omega)
    have h1 := (List.pairwise_cons.1 (hm.1 h0)).1 x hx
    exact h1 ⟨e.1.symm, e.2.symm⟩
  have hc : mineN L o.client = mineN l o.client + 1 := by
    rw [RightP.perm_few p]
    unfold mineN
    rw [List.countP_cons]
    simp
  have hcalm := hL.calm
  rw [p.pairwise_iff (fun hxy hyx => hxy (clash_symm hyx)), List.pairwise_cons] at hcalm
  have hm : MayAdd l o := ⟨hl, hL.ok o ho, hn, by have := p.length_eq; have := hL.len; simp at *; omega, by have := hL.few o ho; omega, hcalm.1⟩
  exact ⟨hm, sorted_eq (put_rise hl.rise hn) hL.rise ((put_perm l o).trans p.symm)⟩
theorem add_find {l : List Opn} {o : Opn} (h : MayAdd l o) : findK (putO l o) o.client o.handle = some o := findK_mem h.put.rise (by rw [(put_perm l o).mem_iff]; simp)

/-- One less. -/
def cutO (l : List Opn) (p : Nat) : List Opn := l.take p ++ l.drop (p + 1)
theorem cut_sub (l : List Opn) (p : Nat) : (cutO l p).Sublist l := by
  have h := List.take_append_drop p l
  unfold cutO
  conv => rhs; rw [← h]
  exact List.Sublist.append (List.Sublist.refl _) (List.drop_sublist_drop_left l (by omega))
theorem cut_perm {l : List Opn} {p : Nat} {x : Opn} (h : l[p]? = some x) : l.Perm (x :: cutO l p) := by
  have h1 := List.take_append_drop (p + 1) l
  rw [get_snoc h, List.append_assoc] at h1
  conv => lhs; rw [← h1]
  exact List.perm_middle
/-- What was added, dropped: the list is as it was. -/
theorem add_drop {l : List Opn} {o : Opn} (h : MayAdd l o) : cutO (putO l o) (posO (putO l o) o) = l := by
  have h1 := cut_perm (findK_pos h.put.rise (t := o) (add_find h))
  have h2 := (h1.symm.trans (put_perm l o)).cons_inv
  exact sorted_eq (h.put.rise.sublist (cut_sub _ _)) h.right.rise h2
/-- Two that are added in either order. -/
theorem add_swap {l : List Opn} {a b : Opn} (h1 : MayAdd l a) (h2 : MayAdd (putO l a) b) : MayAdd l b ∧ MayAdd (putO l b) a ∧ putO (putO l b) a = putO (putO l a) b := by
  have hp : (putO (putO l a) b).Perm (b :: a :: l) := (put_perm _ b).trans ((put_perm l a).cons b)
  have hs : RightP ((putO (putO l a) b).erase a) := h2.put.sub List.erase_sublist
  have he : ((putO (putO l a) b).erase a).Perm (b :: l) := by
    have := (hp.trans (List.Perm.swap a b l)).erase a
    rwa [List.erase_cons_head] at this
  obtain ⟨m1, e1⟩ := may_of h1.right hs he
  have hp2 : (putO (putO l a) b).Perm (a :: putO l b) := by
    rw [e1]
    exact List.perm_cons_erase (by rw [hp.mem_iff]; simp)
  obtain ⟨m2, e2⟩ := may_of m1.put h2.put hp2
  exact ⟨m1, m2, e2⟩

/-- The list with one less, the open, and why not. -/
def dropR (l : List Opn) (t : Opn) : List Opn × Opn × Int :=
  if RightP l then match findK l t.client t.handle with
    | some x => (cutO l (posO l t), x, 0)
    | none => ([], zeroO, 14)
  else ([], zeroO, 1)
/-- The list without a client's. -/
def clearL (l : List Opn) (c : Int) : List Opn := l.filter (fun x => decide (x.client ≠ c))
theorem clear_sub (l : List Opn) (c : Int) : (clearL l c).Sublist l := List.filter_sublist
theorem clear_no {l : List Opn} {c : Int} {x : Opn} (h : x ∈ clearL l c) : x.client ≠ c := by
  have := (List.mem_filter.1 h).2
  simpa using this
def clearR (l : List Opn) (c : Int) : List Opn × Int := if RightP l then (clearL l c, 0) else ([], 1)
end Go.Proofs.Ythclpefomhakdaa
