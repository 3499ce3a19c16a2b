/- Trees: what the program asks of a list, and what the document asks, are the same. -/
import Derived.Test.YteiekfccfddmjaaDoorTr1
namespace Go.Proofs.YteiekfccfddmjaaDoor

section
variable {t : List Nd}
theorem get_snoc {α : Type} {l : List α} {i : Nat} {x : α} (h : l[i]? = some x) : l.take (i + 1) = l.take i ++ [x] := by
  have hi := (List.getElem?_eq_some_iff.1 h).1
  rw [List.take_add_one, h]
  rfl

/-- What the program asks first, of one and the one behind it. -/
def chk1 (t : List Nd) (i : Nat) : Bool := match t[i]?, t[i + 1]? with
  | some a, some n => decide (a.id < n.id) && nmB n.name && szB n
  | _, _ => true
/-- What it asks then. -/
def chk2 (t : List Nd) (i : Nat) : Bool := match t[i + 1]? with
  | some n => (dpP t 6 n).isSome && (kidN (t.take (i + 1)) n.par n.name).isNone && decide (kidsN (t.take (i + 1)) n.par < 12)
  | none => true
theorem chk1_iff {i : Nat} {a n : Nd} (ha : t[i]? = some a) (hn : t[i + 1]? = some n) : chk1 t i = true ↔ a.id < n.id ∧ nmB n.name = true ∧ szB n = true := by
  unfold chk1
  rw [ha, hn]
  simp [and_assoc]
theorem chk2_iff {i : Nat} {n : Nd} (hn : t[i + 1]? = some n) : chk2 t i = true ↔ (dpP t 6 n).isSome = true ∧ kidN (t.take (i + 1)) n.par n.name = none ∧ kidsN (t.take (i + 1)) n.par < 12 := by
  unfold chk2
  rw [hn]
  simp [and_assoc]

theorem rise_of_next : ∀ {l : List Nd}, (∀ i a n, l[i]? = some a → l[i + 1]? = some n → a.id < n.id) → l.Pairwise (fun a b => a.id < b.id)
  | [], _ => List.Pairwise.nil
  | [a], _ => by simp
  | a :: b :: r, h => by
    have hb := rise_of_next (l := b :: r) fun i x y hx hy => h (i + 1) x y (by simpa using hx) (by simpa using hy)
    have hab : a.id < b.id := h 0 a b rfl rfl
    rw [List.pairwise_cons]
    refine ⟨fun x hx => ?_, hb⟩
    rcases List.mem_cons.1 hx with rfl | hx
    · exact hab
    · have := (List.pairwise_cons.1 hb).1 x hx
      omega
theorem next_of_rise {l : List Nd} (h : l.Pairwise (fun a b => a.id < b.id)) {i : Nat} {a n : Nd} (ha : l[i]? = some a) (hn : l[i + 1]? = some n) : a.id < n.id := by
  rw [List.pairwise_iff_getElem] at h
  obtain ⟨h1, rfl⟩ := List.getElem?_eq_some_iff.1 ha
  obtain ⟨h2, rfl⟩ := List.getElem?_eq_some_iff.1 hn
  exact h i (i + 1) h1 h2 (by omega)
theorem rise_of_chk1 (h : ∀ i, i + 1 < t.length → chk1 t i = true) : t.Pairwise (fun a b => a.id < b.id) := by
  refine rise_of_next fun i a n ha hn => ((chk1_iff ha hn).1 (h i ?_)).1
  exact (List.getElem?_eq_some_iff.1 hn).1

theorem dpP_up (hr : t.Pairwise (fun a b => a.id < b.id)) : ∀ (f : Nat) {x : Nd} {k : Nat}, x ∈ t → dpP t f x = some k → k ≤ f ∧ up (parF t) k x.id = some 1
  | 0, x, k, hx, h => by
    simp only [dpP] at h
    split at h
    · injection h with h; subst h; rename_i e; exact ⟨Nat.le_refl _, by simp [up, e]⟩
    · cases h
  | f + 1, x, k, hx, h => by
    simp only [dpP] at h
    split at h
    · injection h with h; subst h; rename_i e; exact ⟨Nat.zero_le _, by simp [up, e]⟩
    · cases hp : getI t x.par with
      | none => rw [hp] at h; simp at h
      | some p =>
        rw [hp] at h
        simp only at h
        split at h
        · cases hd : dpP t f p with
          | none => rw [hd] at h; simp at h
          | some j =>
            rw [hd] at h
            simp only [Option.map_some, Option.some.injEq] at h
            subst h
            obtain ⟨h1, h2⟩ := getI_mem hp
            obtain ⟨h3, h4⟩ := dpP_up hr f h1 hd
            refine ⟨by omega, ?_⟩
            simp only [up, parF, getI_of hr hx, Option.map_some, Option.bind_some]
            rw [← h2]
            exact h4
        · cases h
theorem dpP_par {f : Nat} {x : Nd} (h : (dpP t (f + 1) x).isSome = true) (h1 : x.id ≠ 1) : ∃ p, getI t x.par = some p ∧ p.dir = true := by
  simp only [dpP, h1, if_false] at h
  cases hp : getI t x.par with
  | none => rw [hp] at h; simp at h
  | some p =>
    rw [hp] at h
    simp only at h
    split at h
    · rename_i hd; exact ⟨p, rfl, hd⟩
    · cases h
theorem dpR_up (hr : t.Pairwise (fun a b => a.id < b.id)) : ∀ (f : Nat) {x : Nd} {k : Nat}, x ∈ t → dpR t f x = some k → k ≤ f ∧ up (parF t) k x.id = some 1
  | 0, x, k, hx, h => by
    simp only [dpR] at h
    split at h
    · injection h with h; subst h; rename_i e; exact ⟨Nat.le_refl _, by simp [up, e]⟩
    · cases h
  | f + 1, x, k, hx, h => by
    simp only [dpR] at h
    split at h
    · injection h with h; subst h; rename_i e; exact ⟨Nat.zero_le _, by simp [up, e]⟩
    · cases hp : getI t x.par with
      | none => rw [hp] at h; simp at h
      | some p =>
        rw [hp] at h
        simp only at h
        cases hd : dpR t f p with
        | none => rw [hd] at h; simp at h
        | some j =>
          rw [hd] at h
          simp only [Option.map_some, Option.some.injEq] at h
          subst h
          obtain ⟨h1, h2⟩ := getI_mem hp
          obtain ⟨h3, h4⟩ := dpR_up hr f h1 hd
          refine ⟨by omega, ?_⟩
          simp only [up, parF, getI_of hr hx, Option.map_some, Option.bind_some]
          rw [← h2]
          exact h4
theorem Tree.dpR_of (h : Tree t) : ∀ (f : Nat) {x : Nd} {k : Nat}, x ∈ t → up (parF t) k x.id = some 1 → k ≤ f → dpR t f x = some k
  | 0, x, k, hx, hk, hf => by
    obtain rfl : k = 0 := by omega
    simp only [up, Option.some.injEq] at hk
    simp [dpR, hk]
  | f + 1, x, k, hx, hk, hf => by
    by_cases e : x.id = 1
    · rw [e] at hk
      have := up_uniq h.par1 h.par0 hk (b := 0) rfl
      simp [dpR, e, this]
    · obtain ⟨j, rfl⟩ : ∃ j, k = j + 1 := by
        cases k with
        | zero => simp [up] at hk; exact absurd hk e
        | succ j => exact ⟨j, rfl⟩
      obtain ⟨p, hp, _⟩ := h.dirs x (h.tail_of hx e)
      obtain ⟨h1, h2⟩ := getI_mem hp
      simp only [up, h.parF_of hx, Option.bind_some] at hk
      rw [← h2] at hk
      have := h.dpR_of f h1 hk (by omega)
      simp [dpR, e, hp, this]
theorem Tree.dpP_of (h : Tree t) : ∀ (f : Nat) {x : Nd} {k : Nat}, x ∈ t → up (parF t) k x.id = some 1 → k ≤ f → dpP t f x = some k
  | 0, x, k, hx, hk, hf => by
    obtain rfl : k = 0 := by omega
    simp only [up, Option.some.injEq] at hk
    simp [dpP, hk]
  | f + 1, x, k, hx, hk, hf => by
    by_cases e : x.id = 1
    · rw [e] at hk
      have := up_uniq h.par1 h.par0 hk (b := 0) rfl
      simp [dpP, e, this]
    · obtain ⟨j, rfl⟩ : ∃ j, k = j + 1 := by
        cases k with
        | zero => simp [up] at hk; exact absurd hk e
        | succ j => exact ⟨j, rfl⟩
      obtain ⟨p, hp, hd⟩ := h.dirs x (h.tail_of hx e)
      obtain ⟨h1, h2⟩ := getI_mem hp
      simp only [up, h.parF_of hx, Option.bind_some] at hk
      rw [← h2] at hk
      have := h.dpP_of f h1 hk (by omega)
      simp [dpP, e, hp, this, hd]

theorem take_mem_tail (_ : t.head? = some rootN) {i : Nat} {n : Nd} (hn : t[i + 1]? = some n) : n ∈ t.tail := by
  cases t with
  | nil => simp at hn
  | cons a r => simp only [List.getElem?_cons_succ] at hn; exact List.mem_of_getElem? hn
theorem tail_get {n : Nd} (h : n ∈ t.tail) : ∃ i, i + 1 < t.length ∧ t[i + 1]? = some n := by
  cases t with
  | nil => simp at h
  | cons a r =>
    obtain ⟨i, hi, e⟩ := List.getElem_of_mem h
    exact ⟨i, by simpa using hi, by simp only [List.getElem?_cons_succ]; rw [← e]; exact List.getElem?_eq_getElem hi⟩

theorem kids_prefix (h0 : t.head? = some rootN) {d : Int} (hd : d ≠ 0) (h : ∀ i n, t[i + 1]? = some n → n.par = d → kidsN (t.take (i + 1)) d < 12) : ∀ m, kidsN (t.take m) d ≤ 12
  | 0 => by simp [kidsN]
  | m + 1 => by
    have ih := kids_prefix h0 hd h m
    cases hm : t[m]? with
    | none => rw [List.take_of_length_le (by rw [List.getElem?_eq_none_iff] at hm; omega)]; rw [List.take_of_length_le (by rw [List.getElem?_eq_none_iff] at hm; omega)] at ih; exact ih
    | some n =>
      rw [get_snoc hm]
      by_cases e : n.par = d
      · cases m with
        | zero =>
          cases t with
          | nil => simp at hm
          | cons a r =>
            simp only [List.head?_cons, Option.some.injEq] at h0
            simp only [List.getElem?_cons_zero, Option.some.injEq] at hm
            rw [← hm, h0] at e
            exact absurd e.symm hd
        | succ j =>
          have := h j n hm e
          unfold kidsN at this ih ⊢
          rw [List.countP_append]
          simp [e]
          omega
      · unfold kidsN at ih ⊢
        rw [List.countP_append]
        simp [e]
        exact ih

/-- The program's questions make a tree. -/
theorem tree_of_prog (h0 : t.head? = some rootN) (hl : t.length ≤ 40) (h1 : ∀ i, i + 1 < t.length → chk1 t i = true) (h2 : ∀ i, i + 1 < t.length → chk2 t i = true) : Tree t := by
  have hr := rise_of_chk1 h1
  have hcons : t = rootN :: t.tail := by
    cases t with
    | nil => simp at h0
    | cons a r => simp at h0; simp [h0]
  have hroot : rootN ∈ t := by rw [hcons]; simp
  have hab : ∀ n ∈ t.tail, 1 < n.id := fun n hn => by
    have := hr
    rw [hcons, List.pairwise_cons] at this
    exact this.1 n hn
  have hc1 : ∀ n ∈ t.tail, nmB n.name = true ∧ szB n = true := fun n hn => by
    obtain ⟨i, hi, he⟩ := tail_get hn
    have ha : t[i]? = some (t[i]'(by omega)) := List.getElem?_eq_getElem (by omega)
    exact ((chk1_iff ha he).1 (h1 i hi)).2
  have hc2 : ∀ n ∈ t.tail, (dpP t 6 n).isSome = true := fun n hn => by
    obtain ⟨i, hi, he⟩ := tail_get hn
    exact ((chk2_iff he).1 (h2 i hi)).1
  have hdir : ∀ n ∈ t.tail, ∃ p, getI t n.par = some p ∧ p.dir = true := fun n hn => dpP_par (f := 5) (hc2 n hn) (by have := hab n hn; omega)
  have hpar : ∀ n ∈ t.tail, n.par ≠ 0 := fun n hn e => by
    obtain ⟨p, hp, _⟩ := hdir n hn
    obtain ⟨q1, q2⟩ := getI_mem hp
    rw [hcons] at q1
    rcases List.mem_cons.1 q1 with rfl | q1
    · rw [e] at q2; simp [rootN] at q2
    · have := hab p q1; omega
  refine ⟨h0, hl, hr, fun n hn => (hc1 n hn).1, fun n hn => (hc1 n hn).2, hdir, fun n hn => ?_, ?_, fun n hn => ?_⟩
  · rw [hcons] at hn
    rcases List.mem_cons.1 hn with rfl | hn
    · exact ⟨0, by omega, rfl⟩
    · obtain ⟨k, hk⟩ := Option.isSome_iff_exists.1 (hc2 n hn)
      exact ⟨k, dpP_up hr 6 (List.mem_of_mem_tail hn) hk⟩
  · rw [List.pairwise_iff_getElem]
    intro i j hi hj hij e
    have hj' : t[j + 1]? = some t.tail[j] := by
      rw [← List.getElem?_eq_getElem hj, List.getElem?_tail]
    have hi' : t[i + 1]? = some t.tail[i] := by
      rw [← List.getElem?_eq_getElem hi, List.getElem?_tail]
    have hlt := (List.getElem?_eq_some_iff.1 hj').1
    have := kidN_none ((chk2_iff hj').1 (h2 j hlt)).2.1 t.tail[i] (List.mem_of_getElem? (i := i + 1) (by rw [List.getElem?_take_of_lt (by omega)]; exact hi'))
    exact this e
  · have := kids_prefix h0 (d := n.par) (hpar n hn) (fun i m hm e => by
      have := ((chk2_iff hm).1 (h2 i (List.getElem?_eq_some_iff.1 hm).1)).2.2
      rw [e] at this
      exact this) t.length
    rwa [List.take_length] at this
theorem Tree.prog1 (h : Tree t) {i : Nat} (hi : i + 1 < t.length) : chk1 t i = true := by
  have ha : t[i]? = some (t[i]'(by omega)) := List.getElem?_eq_getElem (by omega)
  have hn : t[i + 1]? = some t[i + 1] := List.getElem?_eq_getElem hi
  have hm := take_mem_tail h.head hn
  exact (chk1_iff ha hn).2 ⟨next_of_rise h.rise ha hn, h.name _ hm, h.size _ hm⟩
theorem Tree.prog2 (h : Tree t) {i : Nat} (hi : i + 1 < t.length) : chk2 t i = true := by
  have hn : t[i + 1]? = some t[i + 1] := List.getElem?_eq_getElem hi
  have hm := take_mem_tail h.head hn
  generalize t[i + 1] = n at *
  refine (chk2_iff hn).2 ⟨?_, kidN_none_of fun x hx e => ?_, ?_⟩
  · obtain ⟨k, hk, hu⟩ := h.deep n (List.mem_of_mem_tail hm)
    rw [h.dpP_of 6 (List.mem_of_mem_tail hm) hu hk]
    rfl
  · obtain ⟨j, hj, he⟩ := List.getElem_of_mem hx
    have hj1 : j < i + 1 := by simp at hj; omega
    have hx' : t[j]? = some x := by rw [← he, List.getElem_take]; exact List.getElem?_eq_getElem _
    rcases h.mem (List.mem_of_mem_take hx) with rfl | hxt
    · exact h.name_ne hm e.2.symm
    · have := pair_inj h.uniq hxt hm e.1 e.2
      subst this
      have hr := h.rise
      rw [List.pairwise_iff_getElem] at hr
      obtain ⟨q1, q2⟩ := List.getElem?_eq_some_iff.1 hx'
      obtain ⟨q3, q4⟩ := List.getElem?_eq_some_iff.1 hn
      have := hr j (i + 1) q1 q3 (by omega)
      rw [q2, q4] at this
      omega
  · have h12 := h.kids n hm
    have e : t = t.take (i + 1) ++ [n] ++ t.drop (i + 2) := by
      have := List.take_append_drop (i + 2) t
      rw [get_snoc hn] at this
      exact this.symm
    unfold kidsN at h12 ⊢
    rw [e, List.countP_append, List.countP_append] at h12
    simp only [List.countP_cons, List.countP_nil, beq_self_eq_true, if_true] at h12
    have hl : (t.take (i + 1) ++ [n] ++ t.drop (i + 2)).take (i + 1) = t.take (i + 1) := by rw [← e]
    omega

/-! The document's questions. -/
def kidX (t : List Nd) (d : Int) (s : List UInt8) : Option Nat := (t.tail.findIdx? (fun x => x.par == d && x.name == s)).map (· + 1)
def kids1 (t : List Nd) (d : Int) : Nat := t.tail.countP (fun x => x.par == d)
def rchk (t : List Nd) (i : Nat) : Bool := match t[i - 1]?, t[i]? with
  | some a, some x => decide (a.id < x.id) && nmB x.name && decide (x.size ≤ 1024) && !(x.dir && !(x.size == 0)) &&
      (match getI t x.par with | some p => p.dir | none => false) && kidX t x.par x.name == some i && decide (kids1 t x.par ≤ 12) && decide ((dpR t 7 x).getD 99 ≤ 6)
  | _, _ => true
theorem rchk_iff {i : Nat} {a x : Nd} (ha : t[i - 1]? = some a) (hx : t[i]? = some x) : rchk t i = true ↔ a.id < x.id ∧ nmB x.name = true ∧ x.size ≤ 1024 ∧ (x.dir = true → x.size = 0) ∧ (∃ p, getI t x.par = some p ∧ p.dir = true) ∧ kidX t x.par x.name = some i ∧ kids1 t x.par ≤ 12 ∧ (dpR t 7 x).getD 99 ≤ 6 := by
  unfold rchk
  rw [ha, hx]
  simp only [Bool.and_eq_true, decide_eq_true_eq, beq_iff_eq, and_assoc]
  have e1 : (!(x.dir && !(x.size == 0))) = true ↔ (x.dir = true → x.size = 0) := by
    cases x.dir <;> simp
  have e2 : (match getI t x.par with | some p => p.dir | none => false) = true ↔ ∃ p, getI t x.par = some p ∧ p.dir = true := by
    cases getI t x.par with
    | none => simp
    | some p => simp
  rw [e1, e2]
theorem szB_iff (x : Nd) : szB x = true ↔ x.size ≤ 1024 ∧ (x.dir = true → x.size = 0) := by
  unfold szB
  cases x.dir
  · simp
  · simp; omega
theorem kidX_some {d : Int} {s : List UInt8} {k : Nat} (h : kidX t d s = some k) : 1 ≤ k ∧ ∃ x, t[k]? = some x ∧ x.par = d ∧ x.name = s := by
  unfold kidX at h
  obtain ⟨j, hj, rfl⟩ := Option.map_eq_some_iff.1 h
  refine ⟨by omega, ?_⟩
  rw [List.findIdx?_eq_some_iff_getElem] at hj
  obtain ⟨hlt, hp, _⟩ := hj
  refine ⟨t.tail[j], by rw [← List.getElem?_tail]; exact List.getElem?_eq_getElem hlt, ?_⟩
  simpa using hp
theorem kidX_none {d : Int} {s : List UInt8} (h : kidX t d s = none) : ∀ x ∈ t.tail, ¬ (x.par = d ∧ x.name = s) := by
  intro x hx e
  unfold kidX at h
  rw [Option.map_eq_none_iff, List.findIdx?_eq_none_iff] at h
  have := h x hx
  simp [e] at this
theorem kids1_eq (h0 : t.head? = some rootN) {d : Int} (hd : d ≠ 0) : kids1 t d = kidsN t d := by
  cases t with
  | nil => simp at h0
  | cons a r =>
    simp only [List.head?_cons, Option.some.injEq] at h0
    subst h0
    unfold kids1 kidsN
    have : ((rootN.par == d) : Bool) = false := by
      simp only [rootN, beq_eq_false_iff_ne, ne_eq]
      omega
    simp [this]
theorem tail_pos {n : Nd} (h : n ∈ t.tail) : ∃ i, 1 ≤ i ∧ i < t.length ∧ t[i]? = some n := by
  obtain ⟨i, h1, h2⟩ := tail_get h
  exact ⟨i + 1, by omega, h1, h2⟩

theorem tree_of_doc (h0 : t.head? = some rootN) (hl : t.length ≤ 40) (h : ∀ i, 1 ≤ i → i < t.length → rchk t i = true) : Tree t := by
  have hcons : t = rootN :: t.tail := by
    cases t with
    | nil => simp at h0
    | cons a r => simp at h0; simp [h0]
  have hroot : rootN ∈ t := by rw [hcons]; simp
  have hall : ∀ n ∈ t.tail, ∃ i a, 1 ≤ i ∧ t[i]? = some n ∧ t[i - 1]? = some a ∧ rchk t i = true := fun n hn => by
    obtain ⟨i, h1, h2, h3⟩ := tail_pos hn
    exact ⟨i, _, h1, h3, List.getElem?_eq_getElem (by omega), h i h1 h2⟩
  have hr : t.Pairwise (fun a b => a.id < b.id) := rise_of_next fun i a n ha hn => ((rchk_iff (i := i + 1) ha hn).1 (h (i + 1) (by omega) (List.getElem?_eq_some_iff.1 hn).1)).1
  have hab : ∀ n ∈ t.tail, 1 < n.id := fun n hn => by
    have := hr
    rw [hcons, List.pairwise_cons] at this
    exact this.1 n hn
  have hdir : ∀ n ∈ t.tail, ∃ p, getI t n.par = some p ∧ p.dir = true := fun n hn => by
    obtain ⟨i, a, h1, h2, h3, h4⟩ := hall n hn
    exact ((rchk_iff h3 h2).1 h4).2.2.2.2.1
  have hpar : ∀ n ∈ t.tail, n.par ≠ 0 := fun n hn e => by
    obtain ⟨p, hp, _⟩ := hdir n hn
    obtain ⟨q1, q2⟩ := getI_mem hp
    rw [hcons] at q1
    rcases List.mem_cons.1 q1 with rfl | q1
    · rw [e] at q2; simp [rootN] at q2
    · have := hab p q1; omega
  refine ⟨h0, hl, hr, fun n hn => ?_, fun n hn => ?_, hdir, fun n hn => ?_, ?_, fun n hn => ?_⟩
  · obtain ⟨i, a, h1, h2, h3, h4⟩ := hall n hn
    exact ((rchk_iff h3 h2).1 h4).2.1
  · obtain ⟨i, a, h1, h2, h3, h4⟩ := hall n hn
    have := (rchk_iff h3 h2).1 h4
    exact (szB_iff n).2 ⟨this.2.2.1, this.2.2.2.1⟩
  · rw [hcons] at hn
    rcases List.mem_cons.1 hn with rfl | hn
    · exact ⟨0, by omega, rfl⟩
    · obtain ⟨i, a, h1, h2, h3, h4⟩ := hall n hn
      have := ((rchk_iff h3 h2).1 h4).2.2.2.2.2.2.2
      cases hd : dpR t 7 n with
      | none => rw [hd] at this; simp at this
      | some k =>
        rw [hd] at this
        exact ⟨k, this, (dpR_up hr 7 (List.mem_of_mem_tail hn) hd).2⟩
  · rw [List.pairwise_iff_getElem]
    intro i j hi hj hij e
    have hj' : t[j + 1]? = some t.tail[j] := by
      rw [← List.getElem?_eq_getElem hj, List.getElem?_tail]
    have hi' : t[i + 1]? = some t.tail[i] := by
      rw [← List.getElem?_eq_getElem hi, List.getElem?_tail]
    have ki := ((rchk_iff (i := i + 1) (List.getElem?_eq_getElem (i := i + 1 - 1) (by have := (List.getElem?_eq_some_iff.1 hi').1; omega)) hi').1 (h (i + 1) (by omega) (List.getElem?_eq_some_iff.1 hi').1)).2.2.2.2.2.1
    have kj := ((rchk_iff (i := j + 1) (List.getElem?_eq_getElem (i := j + 1 - 1) (by have := (List.getElem?_eq_some_iff.1 hj').1; omega)) hj').1 (h (j + 1) (by omega) (List.getElem?_eq_some_iff.1 hj').1)).2.2.2.2.2.1
    rw [e.1, e.2, kj] at ki
    simp at ki
    omega
  · obtain ⟨i, a, h1, h2, h3, h4⟩ := hall n hn
    have := ((rchk_iff h3 h2).1 h4).2.2.2.2.2.2.1
    rwa [kids1_eq h0 (hpar n hn)] at this
theorem Tree.kidX_of (h : Tree t) {i : Nat} (h1 : 1 ≤ i) {x : Nd} (hx : t[i]? = some x) : kidX t x.par x.name = some i := by
  have hxt : x ∈ t.tail := by
    obtain ⟨j, rfl⟩ : ∃ j, i = j + 1 := ⟨i - 1, by omega⟩
    exact take_mem_tail h.head hx
  cases hk : kidX t x.par x.name with
  | none => exact absurd ⟨rfl, rfl⟩ (kidX_none hk x hxt)
  | some k =>
    obtain ⟨k1, y, hy, e1, e2⟩ := kidX_some hk
    have hyt : y ∈ t.tail := by
      obtain ⟨j, rfl⟩ : ∃ j, k = j + 1 := ⟨k - 1, by omega⟩
      exact take_mem_tail h.head hy
    have := pair_inj h.uniq hyt hxt e1 e2
    subst this
    have hr := h.rise
    rw [List.pairwise_iff_getElem] at hr
    obtain ⟨q1, q2⟩ := List.getElem?_eq_some_iff.1 hx
    obtain ⟨q3, q4⟩ := List.getElem?_eq_some_iff.1 hy
    rcases Nat.lt_trichotomy i k with e | e | e
    · have := hr i k q1 q3 e; rw [q2, q4] at this; omega
    · rw [e]
    · have := hr k i q3 q1 e; rw [q2, q4] at this; omega
theorem Tree.doc (h : Tree t) {i : Nat} (h1 : 1 ≤ i) (hi : i < t.length) : rchk t i = true := by
  have ha : t[i - 1]? = some (t[i - 1]'(by omega)) := List.getElem?_eq_getElem (by omega)
  have hn : t[i]? = some t[i] := List.getElem?_eq_getElem hi
  have hm : t[i] ∈ t.tail := by
    obtain ⟨j, rfl⟩ : ∃ j, i = j + 1 := ⟨i - 1, by omega⟩
    exact take_mem_tail h.head hn
  have hs := (szB_iff _).1 (h.size _ hm)
  refine (rchk_iff ha hn).2 ⟨?_, h.name _ hm, hs.1, hs.2, h.dirs _ hm, h.kidX_of h1 hn, ?_, ?_⟩
  · have hn' : t[i - 1 + 1]? = some t[i] := by rw [show i - 1 + 1 = i by omega]; exact hn
    exact next_of_rise h.rise ha hn'
  · rw [kids1_eq h.head (by have := h.par_pos hm; omega)]
    exact h.kids _ hm
  · obtain ⟨k, hk, hu⟩ := h.deep _ (List.mem_of_mem_tail hm)
    rw [h.dpR_of 7 (List.mem_of_mem_tail hm) hu (by omega)]
    exact hk

/-- For what is no tree by a look: the program's questions, to be counted. -/
def treeB (t : List Nd) : Bool := (t.head? == some rootN) && decide (t.length ≤ 40) && (List.range (t.length - 1)).all (chk1 t) && (List.range (t.length - 1)).all (chk2 t)
theorem tree_iff : Tree t ↔ treeB t = true := by
  unfold treeB
  simp only [Bool.and_eq_true, beq_iff_eq, decide_eq_true_eq, List.all_eq_true, List.mem_range]
  refine ⟨fun h => ⟨⟨⟨h.head, h.len⟩, fun i hi => h.prog1 (by omega)⟩, fun i hi => h.prog2 (by omega)⟩, fun ⟨⟨⟨h1, h2⟩, h3⟩, h4⟩ => tree_of_prog h1 h2 (fun i hi => h3 i (by omega)) (fun i hi => h4 i (by omega))⟩
end
instance (t : List Nd) : Decidable (Tree t) := if h : treeB t = true then isTrue (tree_iff.2 h) else isFalse fun e => h (tree_iff.1 e)
end Go.Proofs.YteiekfccfddmjaaDoor
