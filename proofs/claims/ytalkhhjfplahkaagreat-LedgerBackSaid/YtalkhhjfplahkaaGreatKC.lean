/- Joined: Tr1, Tr2, Sh1, Hd1, Lg14. -/
import Derived.Test.YtalkhhjfplahkaaGreatKB
import Derived.Test.YtalkhhjfplahkaaGreatKA
import Derived.Lib.Hide
namespace Go.Proofs.YtalkhhjfplahkaaGreat
set_option maxRecDepth 100000

/-- An inode. -/
structure Nd where
  id : Int
  par : Int
  name : List UInt8
  dir : Bool
  size : Int

theorem nd_ext {x y : Nd} (h1 : x.id = y.id) (h2 : x.par = y.par) (h3 : x.name = y.name) (h4 : x.dir = y.dir) (h5 : x.size = y.size) : x = y := by
  cases x; cases y; simp_all
instance : DecidableEq Nd := fun x y =>
  if h : x.id = y.id ∧ x.par = y.par ∧ x.name = y.name ∧ x.dir = y.dir ∧ x.size = y.size then
    isTrue (nd_ext h.1 h.2.1 h.2.2.1 h.2.2.2.1 h.2.2.2.2)
  else isFalse fun e => h (by subst e; exact ⟨rfl, rfl, rfl, rfl, rfl⟩)

def rootN : Nd := ⟨1, 0, [], true, 0⟩
def zeroN : Nd := ⟨0, 0, [], false, 0⟩
def getI (t : List Nd) (i : Int) : Option Nd := t.find? (fun x => x.id == i)
def kidN (t : List Nd) (d : Int) (s : List UInt8) : Option Nd := t.find? (fun x => x.par == d && x.name == s)
def kidsN (t : List Nd) (d : Int) : Nat := t.countP (fun x => x.par == d)
def okC (c : UInt8) : Bool := (decide (97 ≤ c.toNat) && decide (c.toNat ≤ 122)) || (decide (48 ≤ c.toNat) && decide (c.toNat ≤ 57)) || c.toNat == 46 || c.toNat == 95 || c.toNat == 45
def nmB (s : List UInt8) : Bool := decide (1 ≤ s.length) && decide (s.length ≤ 8) && !(s == [46]) && !(s == [46, 46]) && s.all okC
def szB (x : Nd) : Bool := if x.dir then x.size == 0 else decide (x.size ≤ 1024)
def parF (t : List Nd) (i : Int) : Option Int := (getI t i).map (·.par)

/-- k steps up. -/
def up (f : Int → Option Int) : Nat → Int → Option Int
  | 0, i => some i
  | k + 1, i => (f i).bind (up f k)

/-- The program's depth: how many steps through directories to the root, at most so many. -/
def dpP (t : List Nd) : Nat → Nd → Option Nat
  | 0, x => if x.id = 1 then some 0 else none
  | f + 1, x => if x.id = 1 then some 0 else match getI t x.par with
    | some p => if p.dir then (dpP t f p).map (· + 1) else none
    | none => none
/-- The document's depth. -/
def dpR (t : List Nd) : Nat → Nd → Option Nat
  | 0, x => if x.id = 1 then some 0 else none
  | f + 1, x => if x.id = 1 then some 0 else match getI t x.par with
    | some p => (dpR t f p).map (· + 1)
    | none => none

/-- What a tree is. -/
structure Tree (t : List Nd) : Prop where
  head : t.head? = some rootN
  len : t.length ≤ 40
  rise : t.Pairwise (fun a b => a.id < b.id)
  name : ∀ n ∈ t.tail, nmB n.name = true
  size : ∀ n ∈ t.tail, szB n = true
  dirs : ∀ n ∈ t.tail, ∃ p, getI t n.par = some p ∧ p.dir = true
  deep : ∀ n ∈ t, ∃ k, k ≤ 6 ∧ up (parF t) k n.id = some 1
  uniq : t.tail.Pairwise (fun a b => ¬ (a.par = b.par ∧ a.name = b.name))
  kids : ∀ n ∈ t.tail, kidsN t n.par ≤ 12

/-! Up. -/
section
variable {f : Int → Option Int}
theorem up_one (i : Int) : up f 1 i = f i := by
  simp only [up]
  cases f i <;> rfl
theorem up_add : ∀ (a b : Nat) (i : Int), up f (a + b) i = (up f a i).bind (up f b)
  | 0, b, i => by simp [up]
  | a + 1, b, i => by
    rw [show a + 1 + b = (a + b) + 1 by omega]
    simp only [up]
    cases f i with
    | none => rfl
    | some j => simp only [Option.bind_some]; exact up_add a b j
theorem up_snoc (a : Nat) (i : Int) : up f (a + 1) i = (up f a i).bind f := by
  rw [up_add]
  congr 1
  exact funext fun j => up_one j
theorem up_zero (h0 : f 0 = none) (k : Nat) (h : up f k 0 = some 1) : False := by
  cases k with
  | zero => simp [up] at h
  | succ k => simp [up, h0] at h
theorem up_past (h1 : f 1 = some 0) (h0 : f 0 = none) {i : Int} {a : Nat} (h : up f a i = some 1) (b : Nat) (hb : 0 < b) : up f (a + b) i ≠ some 1 := by
  intro h2
  rw [up_add, h] at h2
  obtain ⟨c, rfl⟩ : ∃ c, b = c + 1 := ⟨b - 1, by omega⟩
  simp only [Option.bind_some, up, h1] at h2
  exact up_zero h0 c h2
/-- How deep one lies is one number. -/
theorem up_uniq (h1 : f 1 = some 0) (h0 : f 0 = none) {i : Int} {a b : Nat} (ha : up f a i = some 1) (hb : up f b i = some 1) : a = b := by
  rcases Nat.lt_trichotomy a b with h | h | h
  · exact absurd (by rw [show a + (b - a) = b by omega]; exact hb) (up_past h1 h0 ha (b - a) (by omega))
  · exact h
  · exact absurd (by rw [show b + (a - b) = a by omega]; exact ha) (up_past h1 h0 hb (a - b) (by omega))
/-- From one inside another one: the depths' difference. -/
theorem up_split (h1 : f 1 = some 0) (h0 : f 0 = none) {i n : Int} {a j : Nat} (ha : up f a i = some 1) (hj : up f j i = some n) (hn : n ≠ 0) : j ≤ a ∧ up f (a - j) n = some 1 := by
  have hle : j ≤ a := by
    apply Decidable.byContradiction
    intro h
    have : up f (a + (j - a)) i = some n := by rw [show a + (j - a) = j by omega]; exact hj
    rw [up_add, ha] at this
    obtain ⟨c, hc⟩ : ∃ c, j - a = c + 1 := ⟨j - a - 1, by omega⟩
    rw [hc] at this
    simp only [Option.bind_some, up, h1] at this
    cases c with
    | zero => simp [up] at this; exact hn this.symm
    | succ c => simp [up, h0] at this
  refine ⟨hle, ?_⟩
  have : up f (j + (a - j)) i = some 1 := by rw [show j + (a - j) = a by omega]; exact ha
  rw [up_add, hj] at this
  simpa using this

/-- n's parent is another one now. -/
def updt (f : Int → Option Int) (n : Int) (v : Int) : Int → Option Int := fun i => if i = n then some v else f i
theorem upd_self (n v : Int) : updt f n v n = some v := by simp [updt]
theorem upd_other {n v i : Int} (h : i ≠ n) : updt f n v i = f i := by simp [updt, h]
theorem upd_upd (n v u : Int) : updt (updt f n v) n u = updt f n u := by
  funext i
  by_cases h : i = n <;> simp [updt, h]
theorem upd_back {n v : Int} (h : f n = some v) : updt f n v = f := by
  funext i
  by_cases e : i = n
  · simp [updt, e, h]
  · simp [updt, e]
/-- Outside nothing turns. -/
theorem upd_out {n v : Int} : ∀ (k : Nat) (i : Int), (∀ j, j < k → up f j i ≠ some n) → up (updt f n v) k i = up f k i
  | 0, i, _ => rfl
  | k + 1, i, h => by
    have hi : i ≠ n := fun e => h 0 (by omega) (by simp [up, e])
    simp only [up, upd_other hi]
    cases hf : f i with
    | none => rfl
    | some j =>
      simp only [Option.bind_some]
      exact upd_out k j fun m hm => by
        have := h (m + 1) (by omega)
        simpa [up, hf] using this
end

/-! Lists whose Ids rise. -/
section
variable {t : List Nd}
theorem getI_mem {i : Int} {x : Nd} (h : getI t i = some x) : x ∈ t ∧ x.id = i := by
  refine ⟨List.mem_of_find?_eq_some h, ?_⟩
  have := List.find?_some h
  simpa using this
theorem getI_none {i : Int} (h : getI t i = none) : ∀ x ∈ t, x.id ≠ i := by
  intro x hx e
  have := List.find?_eq_none.1 h x hx
  simp [e] at this
theorem getI_none_of {i : Int} (h : ∀ x ∈ t, x.id ≠ i) : getI t i = none := by
  rw [getI, List.find?_eq_none]
  intro x hx
  simp [h x hx]
theorem rise_inj (hr : t.Pairwise (fun a b => a.id < b.id)) {x y : Nd} (hx : x ∈ t) (hy : y ∈ t) (e : x.id = y.id) : x = y := by
  induction t with
  | nil => cases hx
  | cons a r ih =>
    rw [List.pairwise_cons] at hr
    simp only [List.mem_cons] at hx hy
    rcases hx with rfl | hx
    · rcases hy with rfl | hy
      · rfl
      · have := hr.1 y hy; omega
    · rcases hy with rfl | hy
      · have := hr.1 x hx; omega
      · exact ih hr.2 hx hy
theorem getI_of (hr : t.Pairwise (fun a b => a.id < b.id)) {x : Nd} (hx : x ∈ t) : getI t x.id = some x := by
  cases h : getI t x.id with
  | none => exact absurd rfl (getI_none h x hx)
  | some y =>
    obtain ⟨h1, h2⟩ := getI_mem h
    rw [rise_inj hr h1 hx h2]
theorem getI_iff (hr : t.Pairwise (fun a b => a.id < b.id)) {i : Int} {x : Nd} : getI t i = some x ↔ x ∈ t ∧ x.id = i :=
  ⟨getI_mem, fun ⟨h1, h2⟩ => by rw [← h2]; exact getI_of hr h1⟩
theorem kidN_mem {d : Int} {s : List UInt8} {x : Nd} (h : kidN t d s = some x) : x ∈ t ∧ x.par = d ∧ x.name = s := by
  refine ⟨List.mem_of_find?_eq_some h, ?_⟩
  have := List.find?_some h
  simpa using this
theorem kidN_none {d : Int} {s : List UInt8} (h : kidN t d s = none) : ∀ x ∈ t, ¬ (x.par = d ∧ x.name = s) := by
  intro x hx e
  have := List.find?_eq_none.1 h x hx
  simp [e] at this
theorem kidN_none_of {d : Int} {s : List UInt8} (h : ∀ x ∈ t, ¬ (x.par = d ∧ x.name = s)) : kidN t d s = none := by
  rw [kidN, List.find?_eq_none]
  intro x hx
  have := h x hx
  simpa using this
end

/-! Trees. -/
section
variable {t : List Nd}
theorem Tree.cons (h : Tree t) : t = rootN :: t.tail := by
  have := h.head
  cases t with
  | nil => simp at this
  | cons a r => simp at this; simp [this]
theorem Tree.root_mem (h : Tree t) : rootN ∈ t := by rw [h.cons]; simp
theorem Tree.mem (h : Tree t) {x : Nd} (hx : x ∈ t) : x = rootN ∨ x ∈ t.tail := by
  rw [h.cons] at hx
  simpa using hx
theorem Tree.above (h : Tree t) {x : Nd} (hx : x ∈ t.tail) : 1 < x.id := by
  have := h.rise
  rw [h.cons, List.pairwise_cons] at this
  exact this.1 x hx
theorem Tree.pos (h : Tree t) {x : Nd} (hx : x ∈ t) : 1 ≤ x.id := by
  rcases h.mem hx with rfl | hx
  · decide
  · have := h.above hx; omega
theorem Tree.tail_of (h : Tree t) {x : Nd} (hx : x ∈ t) (h1 : x.id ≠ 1) : x ∈ t.tail := by
  rcases h.mem hx with rfl | hx
  · exact absurd rfl h1
  · exact hx
theorem Tree.root_of (h : Tree t) {x : Nd} (hx : x ∈ t) (h1 : x.id = 1) : x = rootN := by
  rcases h.mem hx with rfl | hx
  · rfl
  · have := h.above hx; omega
theorem Tree.get (h : Tree t) {x : Nd} (hx : x ∈ t) : getI t x.id = some x := getI_of h.rise hx
theorem Tree.get1 (h : Tree t) : getI t 1 = some rootN := h.get h.root_mem
theorem Tree.par1 (h : Tree t) : parF t 1 = some 0 := by rw [parF, h.get1]; rfl
theorem Tree.par0 (h : Tree t) : parF t 0 = none := by
  rw [parF, getI_none_of (fun x hx e => by have := h.pos hx; omega)]
  rfl
theorem Tree.parF_of (h : Tree t) {x : Nd} (hx : x ∈ t) : parF t x.id = some x.par := by rw [parF, h.get hx]; rfl
theorem Tree.par_pos (h : Tree t) {x : Nd} (hx : x ∈ t.tail) : 1 ≤ x.par := by
  obtain ⟨p, hp, _⟩ := h.dirs x hx
  obtain ⟨h1, h2⟩ := getI_mem hp
  have := h.pos h1
  omega
theorem Tree.name_ne (h : Tree t) {x : Nd} (hx : x ∈ t.tail) : x.name ≠ [] := by
  intro e
  have := h.name x hx
  rw [e] at this
  revert this
  decide
theorem pair_inj {l : List Nd} (hp : l.Pairwise (fun a b => ¬ (a.par = b.par ∧ a.name = b.name))) {x y : Nd} (hx : x ∈ l) (hy : y ∈ l) (e1 : x.par = y.par) (e2 : x.name = y.name) : x = y := by
  induction l with
  | nil => cases hx
  | cons a r ih =>
    rw [List.pairwise_cons] at hp
    simp only [List.mem_cons] at hx hy
    rcases hx with rfl | hx
    · rcases hy with rfl | hy
      · rfl
      · exact absurd ⟨e1, e2⟩ (hp.1 y hy)
    · rcases hy with rfl | hy
      · exact absurd ⟨e1.symm, e2.symm⟩ (hp.1 x hx)
      · exact ih hp.2 hx hy
theorem Tree.kid_iff (h : Tree t) {d : Int} (hd : 1 ≤ d) {s : List UInt8} {x : Nd} : kidN t d s = some x ↔ x ∈ t ∧ x.par = d ∧ x.name = s := by
  refine ⟨kidN_mem, fun ⟨h1, h2, h3⟩ => ?_⟩
  cases hk : kidN t d s with
  | none => exact absurd ⟨h2, h3⟩ (kidN_none hk x h1)
  | some y =>
    obtain ⟨k1, k2, k3⟩ := kidN_mem hk
    have hx : x ∈ t.tail := by
      rcases h.mem h1 with rfl | hx
      · simp [rootN] at h2; omega
      · exact hx
    have hy : y ∈ t.tail := by
      rcases h.mem k1 with rfl | hy
      · simp [rootN] at k2; omega
      · exact hy
    rw [pair_inj h.uniq hx hy (by rw [h2, k2]) (by rw [h3, k3])]
theorem Tree.depth (h : Tree t) {x : Nd} (hx : x ∈ t) : ∃ k, k ≤ 6 ∧ up (parF t) k x.id = some 1 := h.deep x hx
theorem Tree.up_mem (h : Tree t) : ∀ (k : Nat) {i j : Int}, (∃ x ∈ t, x.id = i) → up (parF t) k i = some j → j = 0 ∨ ∃ y ∈ t, y.id = j
  | 0, i, j, hi, e => by simp [up] at e; exact .inr (by rw [← e]; exact hi)
  | k + 1, i, j, ⟨x, hx, hxi⟩, e => by
    rw [← hxi] at e
    simp only [up, h.parF_of hx, Option.bind_some] at e
    rcases h.mem hx with rfl | hxt
    · cases k with
      | zero => simp [up, rootN] at e; exact .inl e.symm
      | succ k => simp [up, rootN, h.par0] at e
    · obtain ⟨p, hp, _⟩ := h.dirs x hxt
      obtain ⟨h1, h2⟩ := getI_mem hp
      exact h.up_mem k ⟨p, h1, h2⟩ e
end

/-- Does one lie inside another one, or is it that one? -/
def Ins (t : List Nd) (n i : Int) : Prop := ∃ k, up (parF t) k i = some n

end Go.Proofs.YtalkhhjfplahkaaGreat
namespace Go.Proofs.YtalkhhjfplahkaaGreat
set_option maxRecDepth 100000

section
variable {t : List Nd}
theorem get_snoc {α : Type} {l : List α} {i : Nat} {x : α} (h : l[i]? = some x) : l.take (i + 1) = l.take i ++ [x] := by
  have hi := (List.getElem?_eq_some_iff.1 h).1
  rw [List.take_add_one, h]
  rfl

/-- What the program asks first, of one and the one behind it. -/
def chk1 (t : List Nd) (i : Nat) : Bool := match t[i]?, t[i + 1]? with
  | some a, some n => decide (a.id < n.id) && nmB n.name && szB n
  | _, _ => true
/-- What it asks then. -/
def chk2 (t : List Nd) (i : Nat) : Bool := match t[i + 1]? with
  | some n => (dpP t 6 n).isSome && (kidN (t.take (i + 1)) n.par n.name).isNone && decide (kidsN (t.take (i + 1)) n.par < 12)
  | none => true
theorem chk1_iff {i : Nat} {a n : Nd} (ha : t[i]? = some a) (hn : t[i + 1]? = some n) : chk1 t i = true ↔ a.id < n.id ∧ nmB n.name = true ∧ szB n = true := by
  unfold chk1
  rw [ha, hn]
  simp [and_assoc]
theorem chk2_iff {i : Nat} {n : Nd} (hn : t[i + 1]? = some n) : chk2 t i = true ↔ (dpP t 6 n).isSome = true ∧ kidN (t.take (i + 1)) n.par n.name = none ∧ kidsN (t.take (i + 1)) n.par < 12 := by
  unfold chk2
  rw [hn]
  simp [and_assoc]

theorem rise_of_next : ∀ {l : List Nd}, (∀ i a n, l[i]? = some a → l[i + 1]? = some n → a.id < n.id) → l.Pairwise (fun a b => a.id < b.id)
  | [], _ => List.Pairwise.nil
  | [a], _ => by simp
  | a :: b :: r, h => by
    have hb := rise_of_next (l := b :: r) fun i x y hx hy => h (i + 1) x y (by simpa using hx) (by simpa using hy)
    have hab : a.id < b.id := h 0 a b rfl rfl
    rw [List.pairwise_cons]
    refine ⟨fun x hx => ?_, hb⟩
    rcases List.mem_cons.1 hx with rfl | hx
    · exact hab
    · have := (List.pairwise_cons.1 hb).1 x hx
      omega
theorem next_of_rise {l : List Nd} (h : l.Pairwise (fun a b => a.id < b.id)) {i : Nat} {a n : Nd} (ha : l[i]? = some a) (hn : l[i + 1]? = some n) : a.id < n.id := by
  rw [List.pairwise_iff_getElem] at h
  obtain ⟨h1, rfl⟩ := List.getElem?_eq_some_iff.1 ha
  obtain ⟨h2, rfl⟩ := List.getElem?_eq_some_iff.1 hn
  exact h i (i + 1) h1 h2 (by omega)
theorem rise_of_chk1 (h : ∀ i, i + 1 < t.length → chk1 t i = true) : t.Pairwise (fun a b => a.id < b.id) := by
  refine rise_of_next fun i a n ha hn => ((chk1_iff ha hn).1 (h i ?_)).1
  exact (List.getElem?_eq_some_iff.1 hn).1

theorem dpP_up (hr : t.Pairwise (fun a b => a.id < b.id)) : ∀ (f : Nat) {x : Nd} {k : Nat}, x ∈ t → dpP t f x = some k → k ≤ f ∧ up (parF t) k x.id = some 1
  | 0, x, k, hx, h => by
    simp only [dpP] at h
    split at h
    · injection h with h; subst h; rename_i e; exact ⟨Nat.le_refl _, by simp [up, e]⟩
    · cases h
  | f + 1, x, k, hx, h => by
    simp only [dpP] at h
    split at h
    · injection h with h; subst h; rename_i e; exact ⟨Nat.zero_le _, by simp [up, e]⟩
    · cases hp : getI t x.par with
      | none => rw [hp] at h; simp at h
      | some p =>
        rw [hp] at h
        simp only at h
        split at h
        · cases hd : dpP t f p with
          | none => rw [hd] at h; simp at h
          | some j =>
            rw [hd] at h
            simp only [Option.map_some, Option.some.injEq] at h
            subst h
            obtain ⟨h1, h2⟩ := getI_mem hp
            obtain ⟨h3, h4⟩ := dpP_up hr f h1 hd
            refine ⟨by omega, ?_⟩
            simp only [up, parF, getI_of hr hx, Option.map_some, Option.bind_some]
            rw [← h2]
            exact h4
        · cases h
theorem dpP_par {f : Nat} {x : Nd} (h : (dpP t (f + 1) x).isSome = true) (h1 : x.id ≠ 1) : ∃ p, getI t x.par = some p ∧ p.dir = true := by
  simp only [dpP, h1, if_false] at h
  cases hp : getI t x.par with
  | none => rw [hp] at h; simp at h
  | some p =>
    rw [hp] at h
    simp only at h
    split at h
    · rename_i hd; exact ⟨p, rfl, hd⟩
    · cases h
theorem dpR_up (hr : t.Pairwise (fun a b => a.id < b.id)) : ∀ (f : Nat) {x : Nd} {k : Nat}, x ∈ t → dpR t f x = some k → k ≤ f ∧ up (parF t) k x.id = some 1
  | 0, x, k, hx, h => by
    simp only [dpR] at h
    split at h
    · injection h with h; subst h; rename_i e; exact ⟨Nat.le_refl _, by simp [up, e]⟩
    · cases h
  | f + 1, x, k, hx, h => by
    simp only [dpR] at h
    split at h
    · injection h with h; subst h; rename_i e; exact ⟨Nat.zero_le _, by simp [up, e]⟩
    · cases hp : getI t x.par with
      | none => rw [hp] at h; simp at h
      | some p =>
        rw [hp] at h
        simp only at h
        cases hd : dpR t f p with
        | none => rw [hd] at h; simp at h
        | some j =>
          rw [hd] at h
          simp only [Option.map_some, Option.some.injEq] at h
          subst h
          obtain ⟨h1, h2⟩ := getI_mem hp
          obtain ⟨h3, h4⟩ := dpR_up hr f h1 hd
          refine ⟨by omega, ?_⟩
          simp only [up, parF, getI_of hr hx, Option.map_some, Option.bind_some]
          rw [← h2]
          exact h4
theorem Tree.dpR_of (h : Tree t) : ∀ (f : Nat) {x : Nd} {k : Nat}, x ∈ t → up (parF t) k x.id = some 1 → k ≤ f → dpR t f x = some k
  | 0, x, k, hx, hk, hf => by
    obtain rfl : k = 0 := by omega
    simp only [up, Option.some.injEq] at hk
    simp [dpR, hk]
  | f + 1, x, k, hx, hk, hf => by
    by_cases e : x.id = 1
    · rw [e] at hk
      have := up_uniq h.par1 h.par0 hk (b := 0) rfl
      simp [dpR, e, this]
    · obtain ⟨j, rfl⟩ : ∃ j, k = j + 1 := by
        cases k with
        | zero => simp [up] at hk; exact absurd hk e
        | succ j => exact ⟨j, rfl⟩
      obtain ⟨p, hp, _⟩ := h.dirs x (h.tail_of hx e)
      obtain ⟨h1, h2⟩ := getI_mem hp
      simp only [up, h.parF_of hx, Option.bind_some] at hk
      rw [← h2] at hk
      have := h.dpR_of f h1 hk (by omega)
      simp [dpR, e, hp, this]
theorem Tree.dpP_of (h : Tree t) : ∀ (f : Nat) {x : Nd} {k : Nat}, x ∈ t → up (parF t) k x.id = some 1 → k ≤ f → dpP t f x = some k
  | 0, x, k, hx, hk, hf => by
    obtain rfl : k = 0 := by omega
    simp only [up, Option.some.injEq] at hk
    simp [dpP, hk]
  | f + 1, x, k, hx, hk, hf => by
    by_cases e : x.id = 1
    · rw [e] at hk
      have := up_uniq h.par1 h.par0 hk (b := 0) rfl
      simp [dpP, e, this]
    · obtain ⟨j, rfl⟩ : ∃ j, k = j + 1 := by
        cases k with
        | zero => simp [up] at hk; exact absurd hk e
        | succ j => exact ⟨j, rfl⟩
      obtain ⟨p, hp, hd⟩ := h.dirs x (h.tail_of hx e)
      obtain ⟨h1, h2⟩ := getI_mem hp
      simp only [up, h.parF_of hx, Option.bind_some] at hk
      rw [← h2] at hk
      have := h.dpP_of f h1 hk (by omega)
      simp [dpP, e, hp, this, hd]

theorem take_mem_tail (_ : t.head? = some rootN) {i : Nat} {n : Nd} (hn : t[i + 1]? = some n) : n ∈ t.tail := by
  cases t with
  | nil => simp at hn
  | cons a r => simp only [List.getElem?_cons_succ] at hn; exact List.mem_of_getElem? hn
theorem tail_get {n : Nd} (h : n ∈ t.tail) : ∃ i, i + 1 < t.length ∧ t[i + 1]? = some n := by
  cases t with
  | nil => simp at h
  | cons a r =>
    obtain ⟨i, hi, e⟩ := List.getElem_of_mem h
    exact ⟨i, by simpa using hi, by simp only [List.getElem?_cons_succ]; rw [← e]; exact List.getElem?_eq_getElem hi⟩

theorem kids_prefix (h0 : t.head? = some rootN) {d : Int} (hd : d ≠ 0) (h : ∀ i n, t[i + 1]? = some n → n.par = d → kidsN (t.take (i + 1)) d < 12) : ∀ m, kidsN (t.take m) d ≤ 12
  | 0 => by simp [kidsN]
  | m + 1 => by
    have ih := kids_prefix h0 hd h m
    cases hm : t[m]? with
    | none => rw [List.take_of_length_le (by rw [List.getElem?_eq_none_iff] at hm; omega)]; rw [List.take_of_length_le (by rw [List.getElem?_eq_none_iff] at hm; omega)] at ih; exact ih
    | some n =>
      rw [get_snoc hm]
      by_cases e : n.par = d
      · cases m with
        | zero =>
          cases t with
          | nil => simp at hm
          | cons a r =>
            simp only [List.head?_cons, Option.some.injEq] at h0
            simp only [List.getElem?_cons_zero, Option.some.injEq] at hm
            rw [← hm, h0] at e
            exact absurd e.symm hd
        | succ j =>
          have := h j n hm e
          unfold kidsN at this ih ⊢
          rw [List.countP_append]
          simp [e]
          omega
      · unfold kidsN at ih ⊢
        rw [List.countP_append]
        simp [e]
        exact ih

/-- The program's questions make a tree. -/
theorem tree_of_prog (h0 : t.head? = some rootN) (hl : t.length ≤ 40) (h1 : ∀ i, i + 1 < t.length → chk1 t i = true) (h2 : ∀ i, i + 1 < t.length → chk2 t i = true) : Tree t := by
  have hr := rise_of_chk1 h1
  have hcons : t = rootN :: t.tail := by
    cases t with
    | nil => simp at h0
    | cons a r => simp at h0; simp [h0]
  have hroot : rootN ∈ t := by rw [hcons]; simp
  have hab : ∀ n ∈ t.tail, 1 < n.id := fun n hn => by
    have := hr
    rw [hcons, List.pairwise_cons] at this
    exact this.1 n hn
  have hc1 : ∀ n ∈ t.tail, nmB n.name = true ∧ szB n = true := fun n hn => by
    obtain ⟨i, hi, he⟩ := tail_get hn
    have ha : t[i]? = some (t[i]'(by omega)) := List.getElem?_eq_getElem (by omega)
    exact ((chk1_iff ha he).1 (h1 i hi)).2
  have hc2 : ∀ n ∈ t.tail, (dpP t 6 n).isSome = true := fun n hn => by
    obtain ⟨i, hi, he⟩ := tail_get hn
    exact ((chk2_iff he).1 (h2 i hi)).1
  have hdir : ∀ n ∈ t.tail, ∃ p, getI t n.par = some p ∧ p.dir = true := fun n hn => dpP_par (f := 5) (hc2 n hn) (by have := hab n hn; omega)
  have hpar : ∀ n ∈ t.tail, n.par ≠ 0 := fun n hn e => by
    obtain ⟨p, hp, _⟩ := hdir n hn
    obtain ⟨q1, q2⟩ := getI_mem hp
    rw [hcons] at q1
    rcases List.mem_cons.1 q1 with rfl | q1
    · rw [e] at q2; simp [rootN] at q2
    · have := hab p q1; omega
  refine ⟨h0, hl, hr, fun n hn => (hc1 n hn).1, fun n hn => (hc1 n hn).2, hdir, fun n hn => ?_, ?_, fun n hn => ?_⟩
  · rw [hcons] at hn
    rcases List.mem_cons.1 hn with rfl | hn
    · exact ⟨0, by omega, rfl⟩
    · obtain ⟨k, hk⟩ := Option.isSome_iff_exists.1 (hc2 n hn)
      exact ⟨k, dpP_up hr 6 (List.mem_of_mem_tail hn) hk⟩
  · rw [List.pairwise_iff_getElem]
    intro i j hi hj hij e
    have hj' : t[j + 1]? = some t.tail[j] := by
      rw [← List.getElem?_eq_getElem hj, List.getElem?_tail]
    have hi' : t[i + 1]? = some t.tail[i] := by
      rw [← List.getElem?_eq_getElem hi, List.getElem?_tail]
    have hlt := (List.getElem?_eq_some_iff.1 hj').1
    have := kidN_none ((chk2_iff hj').1 (h2 j hlt)).2.1 t.tail[i] (List.mem_of_getElem? (i := i + 1) (by rw [List.getElem?_take_of_lt (by omega)]; exact hi'))
    exact this e
  · have := kids_prefix h0 (d := n.par) (hpar n hn) (fun i m hm e => by
      have := ((chk2_iff hm).1 (h2 i (List.getElem?_eq_some_iff.1 hm).1)).2.2
      rw [e] at this
      exact this) t.length
    rwa [List.take_length] at this
theorem Tree.prog1 (h : Tree t) {i : Nat} (hi : i + 1 < t.length) : chk1 t i = true := by
  have ha : t[i]? = some (t[i]'(by omega)) := List.getElem?_eq_getElem (by omega)
  have hn : t[i + 1]? = some t[i + 1] := List.getElem?_eq_getElem hi
  have hm := take_mem_tail h.head hn
  exact (chk1_iff ha hn).2 ⟨next_of_rise h.rise ha hn, h.name _ hm, h.size _ hm⟩
theorem Tree.prog2 (h : Tree t) {i : Nat} (hi : i + 1 < t.length) : chk2 t i = true := by
  have hn : t[i + 1]? = some t[i + 1] := List.getElem?_eq_getElem hi
  have hm := take_mem_tail h.head hn
  generalize t[i + 1] = n at *
  refine (chk2_iff hn).2 ⟨?_, kidN_none_of fun x hx e => ?_, ?_⟩
  · obtain ⟨k, hk, hu⟩ := h.deep n (List.mem_of_mem_tail hm)
    rw [h.dpP_of 6 (List.mem_of_mem_tail hm) hu hk]
    rfl
  · obtain ⟨j, hj, he⟩ := List.getElem_of_mem hx
    have hj1 : j < i + 1 := by simp at hj; omega
    have hx' : t[j]? = some x := by rw [← he, List.getElem_take]; exact List.getElem?_eq_getElem _
    rcases h.mem (List.mem_of_mem_take hx) with rfl | hxt
    · exact h.name_ne hm e.2.symm
    · have := pair_inj h.uniq hxt hm e.1 e.2
      subst this
      have hr := h.rise
      rw [List.pairwise_iff_getElem] at hr
      obtain ⟨q1, q2⟩ := List.getElem?_eq_some_iff.1 hx'
      obtain ⟨q3, q4⟩ := List.getElem?_eq_some_iff.1 hn
      have := hr j (i + 1) q1 q3 (by omega)
      rw [q2, q4] at this
      omega
  · have h12 := h.kids n hm
    have e : t = t.take (i + 1) ++ [n] ++ t.drop (i + 2) := by
      have := List.take_append_drop (i + 2) t
      rw [get_snoc hn] at this
      exact this.symm
    unfold kidsN at h12 ⊢
    rw [e, List.countP_append, List.countP_append] at h12
    simp only [List.countP_cons, List.countP_nil, beq_self_eq_true, if_true] at h12
    have hl : (t.take (i + 1) ++ [n] ++ t.drop (i + 2)).take (i + 1) = t.take (i + 1) := by rw [← e]
    omega

/-! The document's questions. -/
def kidX (t : List Nd) (d : Int) (s : List UInt8) : Option Nat := (t.tail.findIdx? (fun x => x.par == d && x.name == s)).map (· + 1)
def kids1 (t : List Nd) (d : Int) : Nat := t.tail.countP (fun x => x.par == d)
def rchk (t : List Nd) (i : Nat) : Bool := match t[i - 1]?, t[i]? with
  | some a, some x => decide (a.id < x.id) && nmB x.name && decide (x.size ≤ 1024) && !(x.dir && !(x.size == 0)) &&
      (match getI t x.par with | some p => p.dir | none => false) && kidX t x.par x.name == some i && decide (kids1 t x.par ≤ 12) && decide ((dpR t 7 x).getD 99 ≤ 6)
  | _, _ => true
theorem rchk_iff {i : Nat} {a x : Nd} (ha : t[i - 1]? = some a) (hx : t[i]? = some x) : rchk t i = true ↔ a.id < x.id ∧ nmB x.name = true ∧ x.size ≤ 1024 ∧ (x.dir = true → x.size = 0) ∧ (∃ p, getI t x.par = some p ∧ p.dir = true) ∧ kidX t x.par x.name = some i ∧ kids1 t x.par ≤ 12 ∧ (dpR t 7 x).getD 99 ≤ 6 := by
  unfold rchk
  rw [ha, hx]
  simp only [Bool.and_eq_true, decide_eq_true_eq, beq_iff_eq, and_assoc]
  have e1 : (!(x.dir && !(x.size == 0))) = true ↔ (x.dir = true → x.size = 0) := by
    cases x.dir <;> simp
  have e2 : (match getI t x.par with | some p => p.dir | none => false) = true ↔ ∃ p, getI t x.par = some p ∧ p.dir = true := by
    cases getI t x.par with
    | none => simp
    | some p => simp
  rw [e1, e2]
theorem szB_iff (x : Nd) : szB x = true ↔ x.size ≤ 1024 ∧ (x.dir = true → x.size = 0) := by
  unfold szB
  cases x.dir
  · simp
  · simp; omega
theorem kidX_some {d : Int} {s : List UInt8} {k : Nat} (h : kidX t d s = some k) : 1 ≤ k ∧ ∃ x, t[k]? = some x ∧ x.par = d ∧ x.name = s := by
  unfold kidX at h
  obtain ⟨j, hj, rfl⟩ := Option.map_eq_some_iff.1 h
  refine ⟨by omega, ?_⟩
  rw [List.findIdx?_eq_some_iff_getElem] at hj
  obtain ⟨hlt, hp, _⟩ := hj
  refine ⟨t.tail[j], by rw [← List.getElem?_tail]; exact List.getElem?_eq_getElem hlt, ?_⟩
  simpa using hp
theorem kidX_none {d : Int} {s : List UInt8} (h : kidX t d s = none) : ∀ x ∈ t.tail, ¬ (x.par = d ∧ x.name = s) := by
  intro x hx e
  unfold kidX at h
  rw [Option.map_eq_none_iff, List.findIdx?_eq_none_iff] at h
  have := h x hx
  simp [e] at this
theorem kids1_eq (h0 : t.head? = some rootN) {d : Int} (hd : d ≠ 0) : kids1 t d = kidsN t d := by
  cases t with
  | nil => simp at h0
  | cons a r =>
    simp only [List.head?_cons, Option.some.injEq] at h0
    subst h0
    unfold kids1 kidsN
    have : ((rootN.par == d) : Bool) = false := by
      simp only [rootN, beq_eq_false_iff_ne, ne_eq]
      omega
    simp [this]
theorem tail_pos {n : Nd} (h : n ∈ t.tail) : ∃ i, 1 ≤ i ∧ i < t.length ∧ t[i]? = some n := by
  obtain ⟨i, h1, h2⟩ := tail_get h
  exact ⟨i + 1, by omega, h1, h2⟩

theorem tree_of_doc (h0 : t.head? = some rootN) (hl : t.length ≤ 40) (h : ∀ i, 1 ≤ i → i < t.length → rchk t i = true) : Tree t := by
  have hcons : t = rootN :: t.tail := by
    cases t with
    | nil => simp at h0
    | cons a r => simp at h0; simp [h0]
  have hroot : rootN ∈ t := by rw [hcons]; simp
  have hall : ∀ n ∈ t.tail, ∃ i a, 1 ≤ i ∧ t[i]? = some n ∧ t[i - 1]? = some a ∧ rchk t i = true := fun n hn => by
    obtain ⟨i, h1, h2, h3⟩ := tail_pos hn
    exact ⟨i, _, h1, h3, List.getElem?_eq_getElem (by omega), h i h1 h2⟩
  have hr : t.Pairwise (fun a b => a.id < b.id) := rise_of_next fun i a n ha hn => ((rchk_iff (i := i + 1) ha hn).1 (h (i + 1) (by omega) (List.getElem?_eq_some_iff.1 hn).1)).1
  have hab : ∀ n ∈ t.tail, 1 < n.id := fun n hn => by
    have := hr
    rw [hcons, List.pairwise_cons] at this
    exact this.1 n hn
  have hdir : ∀ n ∈ t.tail, ∃ p, getI t n.par = some p ∧ p.dir = true := fun n hn => by
    obtain ⟨i, a, h1, h2, h3, h4⟩ := hall n hn
    exact ((rchk_iff h3 h2).1 h4).2.2.2.2.1
  have hpar : ∀ n ∈ t.tail, n.par ≠ 0 := fun n hn e => by
    obtain ⟨p, hp, _⟩ := hdir n hn
    obtain ⟨q1, q2⟩ := getI_mem hp
    rw [hcons] at q1
    rcases List.mem_cons.1 q1 with rfl | q1
    · rw [e] at q2; simp [rootN] at q2
    · have := hab p q1; omega
  refine ⟨h0, hl, hr, fun n hn => ?_, fun n hn => ?_, hdir, fun n hn => ?_, ?_, fun n hn => ?_⟩
  · obtain ⟨i, a, h1, h2, h3, h4⟩ := hall n hn
    exact ((rchk_iff h3 h2).1 h4).2.1
  · obtain ⟨i, a, h1, h2, h3, h4⟩ := hall n hn
    have := (rchk_iff h3 h2).1 h4
    exact (szB_iff n).2 ⟨this.2.2.1, this.2.2.2.1⟩
  · rw [hcons] at hn
    rcases List.mem_cons.1 hn with rfl | hn
    · exact ⟨0, by omega, rfl⟩
    · obtain ⟨i, a, h1, h2, h3, h4⟩ := hall n hn
      have := ((rchk_iff h3 h2).1 h4).2.2.2.2.2.2.2
      cases hd : dpR t 7 n with
      | none => rw [hd] at this; simp at this
      | some k =>
        rw [hd] at this
        exact ⟨k, this, (dpR_up hr 7 (List.mem_of_mem_tail hn) hd).2⟩
  · rw [List.pairwise_iff_getElem]
    intro i j hi hj hij e
    have hj' : t[j + 1]? = some t.tail[j] := by
      rw [← List.getElem?_eq_getElem hj, List.getElem?_tail]
    have hi' : t[i + 1]? = some t.tail[i] := by
      rw [← List.getElem?_eq_getElem hi, List.getElem?_tail]
    have ki := ((rchk_iff (i := i + 1) (List.getElem?_eq_getElem (i := i + 1 - 1) (by have := (List.getElem?_eq_some_iff.1 hi').1; omega)) hi').1 (h (i + 1) (by omega) (List.getElem?_eq_some_iff.1 hi').1)).2.2.2.2.2.1
    have kj := ((rchk_iff (i := j + 1) (List.getElem?_eq_getElem (i := j + 1 - 1) (by have := (List.getElem?_eq_some_iff.1 hj').1; omega)) hj').1 (h (j + 1) (by omega) (List.getElem?_eq_some_iff.1 hj').1)).2.2.2.2.2.1
    rw [e.1, e.2, kj] at ki
    simp at ki
    omega
  · obtain ⟨i, a, h1, h2, h3, h4⟩ := hall n hn
    have := ((rchk_iff h3 h2).1 h4).2.2.2.2.2.2.1
    rwa [kids1_eq h0 (hpar n hn)] at this
theorem Tree.kidX_of (h : Tree t) {i : Nat} (h1 : 1 ≤ i) {x : Nd} (hx : t[i]? = some x) : kidX t x.par x.name = some i := by
  have hxt : x ∈ t.tail := by
    obtain ⟨j, rfl⟩ : ∃ j, i = j + 1 := ⟨i - 1, by omega⟩
    exact take_mem_tail h.head hx
  cases hk : kidX t x.par x.name with
  | none => exact absurd ⟨rfl, rfl⟩ (kidX_none hk x hxt)
  | some k =>
    obtain ⟨k1, y, hy, e1, e2⟩ := kidX_some hk
    have hyt : y ∈ t.tail := by
      obtain ⟨j, rfl⟩ : ∃ j, k = j + 1 := ⟨k - 1, by omega⟩
      exact take_mem_tail h.head hy
    have := pair_inj h.uniq hyt hxt e1 e2
    subst this
    have hr := h.rise
    rw [List.pairwise_iff_getElem] at hr
    obtain ⟨q1, q2⟩ := List.getElem?_eq_some_iff.1 hx
    obtain ⟨q3, q4⟩ := List.getElem?_eq_some_iff.1 hy
    rcases Nat.lt_trichotomy i k with e | e | e
    · have := hr i k q1 q3 e; rw [q2, q4] at this; omega
    · rw [e]
    · have := hr k i q3 q1 e; rw [q2, q4] at this; omega
theorem Tree.doc (h : Tree t) {i : Nat} (h1 : 1 ≤ i) (hi : i < t.length) : rchk t i = true := by
  have ha : t[i - 1]? = some (t[i - 1]'(by omega)) := List.getElem?_eq_getElem (by omega)
  have hn : t[i]? = some t[i] := List.getElem?_eq_getElem hi
  have hm : t[i] ∈ t.tail := by
    obtain ⟨j, rfl⟩ : ∃ j, i = j + 1 := ⟨i - 1, by omega⟩
    exact take_mem_tail h.head hn
  have hs := (szB_iff _).1 (h.size _ hm)
  refine (rchk_iff ha hn).2 ⟨?_, h.name _ hm, hs.1, hs.2, h.dirs _ hm, h.kidX_of h1 hn, ?_, ?_⟩
  · have hn' : t[i - 1 + 1]? = some t[i] := by rw [show i - 1 + 1 = i by omega]; exact hn
    exact next_of_rise h.rise ha hn'
  · rw [kids1_eq h.head (by have := h.par_pos hm; omega)]
    exact h.kids _ hm
  · obtain ⟨k, hk, hu⟩ := h.deep _ (List.mem_of_mem_tail hm)
    rw [h.dpR_of 7 (List.mem_of_mem_tail hm) hu (by omega)]
    exact hk

/-- For what is no tree by a look: the program's questions, to be counted. -/
def treeB (t : List Nd) : Bool := (t.head? == some rootN) && decide (t.length ≤ 40) && (List.range (t.length - 1)).all (chk1 t) && (List.range (t.length - 1)).all (chk2 t)
theorem tree_iff : Tree t ↔ treeB t = true := by
  unfold treeB
  simp only [Bool.and_eq_true, beq_iff_eq, decide_eq_true_eq, List.all_eq_true, List.mem_range]
  refine ⟨fun h => ⟨⟨⟨h.head, h.len⟩, fun i hi => h.prog1 (by omega)⟩, fun i hi => h.prog2 (by omega)⟩, fun ⟨⟨⟨h1, h2⟩, h3⟩, h4⟩ => tree_of_prog h1 h2 (fun i hi => h3 i (by omega)) (fun i hi => h4 i (by omega))⟩
end
instance (t : List Nd) : Decidable (Tree t) := if h : treeB t = true then isTrue (tree_iff.2 h) else isFalse fun e => h (tree_iff.1 e)
end Go.Proofs.YtalkhhjfplahkaaGreat
namespace Go.Proofs.YtalkhhjfplahkaaGreat

/-- An open. -/
structure Opn where
  client : Int
  handle : Int
  file : Int
  access : Int
  deny : Nat
deriving DecidableEq
def zeroO : Opn := ⟨0, 0, 0, 0, 0⟩
theorem opn_ext {x y : Opn} (h0 : x.client = y.client) (h1 : x.handle = y.handle) (h2 : x.file = y.file) (h3 : x.access = y.access) (h4 : x.deny = y.deny) : x = y := by
  cases x; cases y; simp_all

theorem get_snocs {α : Type} {l : List α} {n : Nat} {x : α} (h : l[n]? = some x) : l.take (n + 1) = l.take n ++ [x] := by
  rw [List.take_add_one, h]; rfl

def validO (x : Opn) : Prop := x.client ≠ 0 ∧ x.file ≠ 0 ∧ 1 ≤ x.access ∧ x.access ≤ 3 ∧ x.deny ≤ 3
instance (x : Opn) : Decidable (validO x) := by unfold validO; exact inferInstance
def bitI (a b : Int) : Prop := (a % 2 = 1 ∧ b % 2 = 1) ∨ (a / 2 % 2 = 1 ∧ b / 2 % 2 = 1)
instance (a b : Int) : Decidable (bitI a b) := by unfold bitI; exact inferInstance
def clashO (x y : Opn) : Prop := x.file = y.file ∧ (bitI x.access y.deny ∨ bitI y.access x.deny)
instance (x y : Opn) : Decidable (clashO x y) := by unfold clashO; exact inferInstance
theorem clash_symm {x y : Opn} (h : clashO x y) : clashO y x := ⟨h.1.symm, h.2.symm⟩
def keyLt (x y : Opn) : Prop := x.client < y.client ∨ (x.client = y.client ∧ x.handle < y.handle)
instance (x y : Opn) : Decidable (keyLt x y) := by unfold keyLt; exact inferInstance
theorem keyLt_trans {x y z : Opn} (h : keyLt x y) (k : keyLt y z) : keyLt x z := by unfold keyLt at *; omega
theorem keyLt_irr (x : Opn) : ¬ keyLt x x := by unfold keyLt; omega
theorem keyLt_asymm {x y : Opn} (h : keyLt x y) : ¬ keyLt y x := by unfold keyLt at *; omega
theorem keyLt_tri {x y : Opn} (h : ¬ keyLt x y) (k : ¬ (x.client = y.client ∧ x.handle = y.handle)) : keyLt y x := by unfold keyLt at *; omega
def mineN (l : List Opn) (c : Int) : Nat := l.countP (fun x => decide (x.client = c))
theorem mineN_snoc (l : List Opn) (x : Opn) (c : Int) : mineN (l ++ [x]) c = mineN l c + (if x.client = c then 1 else 0) := by
  unfold mineN
  rw [List.countP_append]
  by_cases e : x.client = c <;> simp [e]
theorem mineN_le (l : List Opn) (c : Int) : mineN l c ≤ l.length := List.countP_le_length

/-- Whether a list may be. -/
structure RightO (l : List Opn) : Prop where
  len : l.length ≤ 12
  ok : ∀ x ∈ l, validO x
  few : ∀ x ∈ l, mineN l x.client ≤ 4
  rise : l.Pairwise keyLt
  calm : l.Pairwise (fun a b => ¬ clashO a b)
instance (l : List Opn) : Decidable (RightO l) :=
  decidable_of_iff (l.length ≤ 12 ∧ (∀ x ∈ l, validO x) ∧ (∀ x ∈ l, mineN l x.client ≤ 4) ∧ l.Pairwise keyLt ∧ l.Pairwise (fun a b => ¬ clashO a b))
    ⟨fun h => ⟨h.1, h.2.1, h.2.2.1, h.2.2.2.1, h.2.2.2.2⟩, fun h => ⟨h.len, h.ok, h.few, h.rise, h.calm⟩⟩
theorem right_nil : RightO [] := ⟨by simp, by simp, by simp, .nil, .nil⟩
theorem RightO.sub {l m : List Opn} (h : RightO l) (s : m.Sublist l) : RightO m :=
  ⟨Nat.le_trans s.length_le h.len, fun x hx => h.ok x (s.subset hx), fun x hx => Nat.le_trans s.countP_le (h.few x (s.subset hx)), h.rise.sublist s, h.calm.sublist s⟩
theorem RightO.perm_few {l m : List Opn} (p : l.Perm m) (c : Int) : mineN l c = mineN m c := p.countP_eq _

/-- One more at the end. -/
structure StepP (l : List Opn) (x : Opn) : Prop where
  ok : validO x
  len : l.length < 12
  few : mineN l x.client < 4
  calm : ∀ y ∈ l, ¬ clashO x y
  last : ∀ y, l.getLast? = some y → keyLt y x
theorem last_all {l : List Opn} (h : l.Pairwise keyLt) {x : Opn} (k : ∀ y, l.getLast? = some y → keyLt y x) : ∀ y ∈ l, keyLt y x := by
  intro y hy
  cases hl : l.getLast? with
  | none =>
    rw [List.getLast?_eq_none_iff] at hl
    subst hl
    simp at hy
  | some z =>
    obtain ⟨ys, rfl⟩ := List.getLast?_eq_some_iff.1 hl
    have hz := k z hl
    rw [List.mem_append, List.mem_singleton] at hy
    rcases hy with hy | rfl
    · exact keyLt_trans ((List.pairwise_append.1 h).2.2 y hy z (by simp)) hz
    · exact hz
theorem right_snoc {l : List Opn} {x : Opn} : RightO (l ++ [x]) ↔ RightO l ∧ StepP l x := by
  constructor
  · intro h
    have hl := h.sub (List.sublist_append_left l [x])
    refine ⟨hl, h.ok x (by simp), by have := h.len; simp at this; omega, ?_, ?_, ?_⟩
    · have := h.few x (by simp)
      rw [mineN_snoc, if_pos rfl] at this
      omega
    · intro y hy hc
      exact (List.pairwise_append.1 h.calm).2.2 y hy x (by simp) (clash_symm hc)
    · intro y hy
      exact (List.pairwise_append.1 h.rise).2.2 y (List.mem_of_getLast? hy) x (by simp)
  · rintro ⟨h, s⟩
    have hlast := last_all h.rise s.last
    refine ⟨by have := s.len; simp; omega, ?_, ?_, ?_, ?_⟩
    · intro y hy
      rw [List.mem_append, List.mem_singleton] at hy
      rcases hy with hy | rfl
      · exact h.ok y hy
      · exact s.ok
    · intro y hy
      rw [mineN_snoc]
      have hs := s.few
      by_cases e : x.client = y.client
      · rw [if_pos e, ← e]
        omega
      · rw [if_neg e]
        rw [List.mem_append, List.mem_singleton] at hy
        rcases hy with hy | rfl
        · exact h.few y hy
        · exact absurd rfl e
    · rw [List.pairwise_append]
      exact ⟨h.rise, by simp, fun y hy z hz => by rw [List.mem_singleton] at hz; subst hz; exact hlast y hy⟩
    · rw [List.pairwise_append]
      exact ⟨h.calm, by simp, fun y hy z hz hc => by rw [List.mem_singleton] at hz; subst hz; exact s.calm y hy (clash_symm hc)⟩
theorem right_take_succ {l : List Opn} {n : Nat} {x : Opn} (h : l[n]? = some x) : RightO (l.take (n + 1)) ↔ RightO (l.take n) ∧ StepP (l.take n) x := by
  rw [get_snocs h]; exact right_snoc
theorem RightO.take {l : List Opn} (h : RightO l) (n : Nat) : RightO (l.take n) := h.sub (List.take_sublist n l)

/-! Found by client and handle. -/
def isK (c h : Int) (x : Opn) : Bool := decide (x.client = c ∧ x.handle = h)
theorem isK_iff {c h : Int} {x : Opn} : isK c h x = true ↔ x.client = c ∧ x.handle = h := by simp [isK]
def findK (l : List Opn) (c h : Int) : Option Opn := l.find? (isK c h)
theorem findK_some {l : List Opn} {c h : Int} {x : Opn} (e : findK l c h = some x) : x ∈ l ∧ x.client = c ∧ x.handle = h := ⟨List.mem_of_find?_eq_some e, isK_iff.1 (List.find?_some e)⟩
theorem findK_none {l : List Opn} {c h : Int} (e : findK l c h = none) : ∀ x ∈ l, ¬ (x.client = c ∧ x.handle = h) := fun x hx k => (List.find?_eq_none.1 e x hx) (isK_iff.2 k)
theorem findK_none_of {l : List Opn} {c h : Int} (e : ∀ x ∈ l, ¬ (x.client = c ∧ x.handle = h)) : findK l c h = none := List.find?_eq_none.2 fun x hx k => e x hx (isK_iff.1 k)
theorem key_inj {l : List Opn} (h : l.Pairwise keyLt) {x y : Opn} (hx : x ∈ l) (hy : y ∈ l) (e1 : x.client = y.client) (e2 : x.handle = y.handle) : x = y := by
  obtain ⟨i, hi, rfl⟩ := List.getElem_of_mem hx
  obtain ⟨j, hj, rfl⟩ := List.getElem_of_mem hy
  rw [List.pairwise_iff_getElem] at h
  rcases Nat.lt_trichotomy i j with a | a | a
  · have := h i j hi hj a
    unfold keyLt at this
    omega
  · subst a; rfl
  · have := h j i hj hi a
    unfold keyLt at this
    omega
theorem findK_mem {l : List Opn} (h : l.Pairwise keyLt) {x : Opn} (hx : x ∈ l) : findK l x.client x.handle = some x := by
  cases e : findK l x.client x.handle with
  | none => exact absurd ⟨rfl, rfl⟩ (findK_none e x hx)
  | some y =>
    obtain ⟨h1, h2, h3⟩ := findK_some e
    rw [key_inj h h1 hx h2 h3]

/-- What lies ahead of a key. -/
def posO (l : List Opn) (t : Opn) : Nat := l.countP (fun x => decide (keyLt x t))
theorem posO_le (l : List Opn) (t : Opn) : posO l t ≤ l.length := List.countP_le_length
theorem posO_iff {l : List Opn} (h : l.Pairwise keyLt) {t : Opn} : ∀ {j : Nat} {x : Opn}, l[j]? = some x → (keyLt x t ↔ j < posO l t) := by
  induction l with
  | nil => intro j x hx; simp at hx
  | cons a r ih =>
    rw [List.pairwise_cons] at h
    intro j x hx
    unfold posO
    rw [List.countP_cons]
    have hz : ¬ keyLt a t → r.countP (fun x => decide (keyLt x t)) = 0 := fun e => by
      rw [List.countP_eq_zero]
      intro y hy
      have := h.1 y hy
      simp only [decide_eq_true_eq]
      exact fun q => e (keyLt_trans this q)
    cases j with
    | zero =>
      simp only [List.getElem?_cons_zero, Option.some.injEq] at hx
      subst hx
      by_cases e : keyLt a t
      · simp [e]
      · rw [hz e]
        simp [e]
    | succ j =>
      simp only [List.getElem?_cons_succ] at hx
      have := ih h.2 hx
      unfold posO at this
      by_cases e : keyLt a t
      · simp [e]
        omega
      · have hax := h.1 x (List.mem_of_getElem? hx)
        rw [hz e]
        simp [e]
        exact fun q => e (keyLt_trans hax q)
theorem findK_pos {l : List Opn} (h : l.Pairwise keyLt) {t x : Opn} (hx : findK l t.client t.handle = some x) : l[posO l t]? = some x := by
  obtain ⟨h1, h2, h3⟩ := findK_some hx
  obtain ⟨j, hj, rfl⟩ := List.getElem_of_mem h1
  have hjx : l[j]? = some l[j] := List.getElem?_eq_getElem hj
  have hn : ¬ j < posO l t := fun e => by have := (posO_iff h hjx).2 e; unfold keyLt at this; omega
  have hp' : l[posO l t]? = some (l[posO l t]'(by omega)) := List.getElem?_eq_getElem (by omega)
  rw [hp']
  have h4 : ¬ keyLt (l[posO l t]'(by omega)) t := fun e => by have := (posO_iff h hp').1 e; omega
  rcases Nat.lt_or_ge (posO l t) j with e | e
  · have := (List.pairwise_iff_getElem.1 h) (posO l t) j (by omega) hj e
    unfold keyLt at this h4
    omega
  · have e' : posO l t = j := by omega
    simp only [e']
theorem findK_at {l : List Opn} (h : l.Pairwise keyLt) (t : Opn) : findK l t.client t.handle = match l[posO l t]? with | some x => if x.client = t.client ∧ x.handle = t.handle then some x else none | none => none := by
  cases hg : findK l t.client t.handle with
  | some x =>
    obtain ⟨_, h2, h3⟩ := findK_some hg
    rw [findK_pos h hg]
    simp [h2, h3]
  | none =>
    cases hp : l[posO l t]? with
    | none => rfl
    | some x =>
      have := findK_none hg x (List.mem_of_getElem? hp)
      simp [this]

/-- The list with one more. -/
def putO (l : List Opn) (o : Opn) : List Opn := l.take (posO l o) ++ o :: l.drop (posO l o)
theorem put_perm (l : List Opn) (o : Opn) : (putO l o).Perm (o :: l) := by
  have h := List.perm_middle (a := o) (l₁ := l.take (posO l o)) (l₂ := l.drop (posO l o))
  rwa [List.take_append_drop] at h
theorem put_rise {l : List Opn} {o : Opn} (h : l.Pairwise keyLt) (hn : findK l o.client o.handle = none) : (putO l o).Pairwise keyLt := by
  unfold putO
  have hs : (l.take (posO l o) ++ l.drop (posO l o)).Pairwise keyLt := by rwa [List.take_append_drop]
  rw [List.pairwise_append] at hs ⊢
  have ha : ∀ a ∈ l.take (posO l o), keyLt a o := fun a ha => by
    obtain ⟨j, hj, rfl⟩ := List.getElem_of_mem ha
    rw [List.length_take] at hj
    have hx : l[j]? = some l[j] := List.getElem?_eq_getElem (by omega)
    have := (posO_iff h (t := o) hx).2 (by omega)
    simpa using this
  have hb : ∀ b ∈ l.drop (posO l o), keyLt o b := fun b hb => by
    obtain ⟨j, hj, rfl⟩ := List.getElem_of_mem hb
    rw [List.length_drop] at hj
    have hx : l[posO l o + j]? = some (l[posO l o + j]'(by omega)) := List.getElem?_eq_getElem (by omega)
    have h1 : ¬ keyLt (l[posO l o + j]'(by omega)) o := fun e => by have := (posO_iff h hx).1 e; omega
    have h2 := keyLt_tri h1 (findK_none hn _ (List.mem_of_getElem? hx))
    simpa using h2
  refine ⟨hs.1, List.pairwise_cons.2 ⟨hb, hs.2.1⟩, fun a h1 b h2 => ?_⟩
  rw [List.mem_cons] at h2
  rcases h2 with rfl | h2
  · exact ha a h1
  · exact hs.2.2 a h1 b h2
theorem sorted_eq {l m : List Opn} (h : l.Pairwise keyLt) (k : m.Pairwise keyLt) (p : l.Perm m) : l = m :=
  List.Perm.eq_of_pairwise (fun _ _ _ _ h1 h2 => absurd h2 (keyLt_asymm h1)) h k p

/-- Why one more is not added; 0: it is. -/
def addC (l : List Opn) (o : Opn) : Int :=
  if ¬ (RightO l ∧ validO o) then 1 else if (findK l o.client o.handle).isSome then 8 else if 12 ≤ l.length ∨ 4 ≤ mineN l o.client then 16 else if ∃ y ∈ l, clashO o y then 13 else 0
def addR (l : List Opn) (o : Opn) : List Opn × Int := if addC l o = 0 then (putO l o, 0) else ([], addC l o)
structure MayAdd (l : List Opn) (o : Opn) : Prop where
  right : RightO l
  ok : validO o
  none : findK l o.client o.handle = none
  len : l.length < 12
  few : mineN l o.client < 4
  calm : ∀ y ∈ l, ¬ clashO o y
theorem addC_zero {l : List Opn} {o : Opn} : addC l o = 0 ↔ MayAdd l o := by
  unfold addC
  constructor
  · intro h
    split at h
    · omega
    rename_i h1
    split at h
    · omega
    rename_i h2
    split at h
    · omega
    rename_i h3
    split at h
    · omega
    rename_i h4
    rw [Classical.not_not] at h1
    refine ⟨h1.1, h1.2, by simpa using h2, by omega, by omega, fun y hy hc => h4 ⟨y, hy, hc⟩⟩
  · intro h
    rw [if_neg (by simp [h.right, h.ok]), if_neg (by simp [h.none]), if_neg (by have := h.len; have := h.few; omega), if_neg (fun ⟨y, hy, hc⟩ => h.calm y hy hc)]
theorem addR_snd (l : List Opn) (o : Opn) : (addR l o).2 = addC l o := by
  unfold addR
  split <;> simp_all
theorem addR_ok {l : List Opn} {o : Opn} (h : addC l o = 0) : addR l o = (putO l o, 0) := by unfold addR; rw [if_pos h]
theorem addR_no {l : List Opn} {o : Opn} (h : ¬ addC l o = 0) : addR l o = ([], addC l o) := by unfold addR; rw [if_neg h]
theorem MayAdd.put {l : List Opn} {o : Opn} (h : MayAdd l o) : RightO (putO l o) := by
  have p := put_perm l o
  have hc : ∀ c, mineN (putO l o) c = mineN l c + (if o.client = c then 1 else 0) := fun c => by
    rw [RightO.perm_few p]
    unfold mineN
    rw [List.countP_cons]
    by_cases e : o.client = c <;> simp [e]
  refine ⟨by have := p.length_eq; have := h.len; simp at *; omega, ?_, ?_, put_rise h.right.rise h.none, ?_⟩
  · intro x hx
    rw [p.mem_iff, List.mem_cons] at hx
    rcases hx with rfl | hx
    · exact h.ok
    · exact h.right.ok x hx
  · intro x hx
    rw [hc]
    rw [p.mem_iff, List.mem_cons] at hx
    have := h.few
    by_cases e : o.client = x.client
    · rw [if_pos e, ← e]; omega
    · rw [if_neg e]
      rcases hx with rfl | hx
      · exact absurd rfl e
      · exact h.right.few x hx
  · rw [p.pairwise_iff (fun hxy hyx => hxy (clash_symm hyx)), List.pairwise_cons]
    exact ⟨h.calm, h.right.calm⟩
/-- Whatever is right, and has just one more, is what is added. -/
theorem may_of {l L : List Opn} {o : Opn} (hl : RightO l) (hL : RightO L) (p : L.Perm (o :: l)) : MayAdd l o ∧ putO l o = L := by
  have ho : o ∈ L := by rw [p.mem_iff]; simp
  have hn : findK l o.client o.handle = none := by
    refine findK_none_of fun x hx e => ?_
    have hm := p.pairwise_iff (R := fun a b : Opn => ¬ (a.client = b.client ∧ a.handle = b.handle)) (fun h1 h2 => h1 ⟨h2.1.symm, h2.2.symm⟩)
    have h0 : L.Pairwise (fun a b : Opn => ¬ (a.client = b.client ∧ a.handle = b.handle)) := hL.rise.imp (fun h => by unfold keyLt at h; omega)
    have h1 := (List.pairwise_cons.1 (hm.1 h0)).1 x hx
    exact h1 ⟨e.1.symm, e.2.symm⟩
  have hc : mineN L o.client = mineN l o.client + 1 := by
    rw [RightO.perm_few p]
    unfold mineN
    rw [List.countP_cons]
    simp
  have hcalm := hL.calm
  rw [p.pairwise_iff (fun hxy hyx => hxy (clash_symm hyx)), List.pairwise_cons] at hcalm
  have hm : MayAdd l o := ⟨hl, hL.ok o ho, hn, by have := p.length_eq; have := hL.len; simp at *; omega, by have := hL.few o ho; omega, hcalm.1⟩
  exact ⟨hm, sorted_eq (put_rise hl.rise hn) hL.rise ((put_perm l o).trans p.symm)⟩
theorem add_find {l : List Opn} {o : Opn} (h : MayAdd l o) : findK (putO l o) o.client o.handle = some o := findK_mem h.put.rise (by rw [(put_perm l o).mem_iff]; simp)

/-- One less. -/
def cutO (l : List Opn) (p : Nat) : List Opn := l.take p ++ l.drop (p + 1)
theorem cut_sub (l : List Opn) (p : Nat) : (cutO l p).Sublist l := by
  have h := List.take_append_drop p l
  unfold cutO
  conv => rhs; rw [← h]
  exact List.Sublist.append (List.Sublist.refl _) (List.drop_sublist_drop_left l (by omega))
theorem cut_perm {l : List Opn} {p : Nat} {x : Opn} (h : l[p]? = some x) : l.Perm (x :: cutO l p) := by
  have h1 := List.take_append_drop (p + 1) l
  rw [get_snocs h, List.append_assoc] at h1
  conv => lhs; rw [← h1]
  exact List.perm_middle
/-- What was added, dropped: the list is as it was. -/
theorem add_drop {l : List Opn} {o : Opn} (h : MayAdd l o) : cutO (putO l o) (posO (putO l o) o) = l := by
  have h1 := cut_perm (findK_pos h.put.rise (t := o) (add_find h))
  have h2 := (h1.symm.trans (put_perm l o)).cons_inv
  exact sorted_eq (h.put.rise.sublist (cut_sub _ _)) h.right.rise h2
/-- Two that are added in either order. -/
theorem add_swap {l : List Opn} {a b : Opn} (h1 : MayAdd l a) (h2 : MayAdd (putO l a) b) : MayAdd l b ∧ MayAdd (putO l b) a ∧ putO (putO l b) a = putO (putO l a) b := by
  have hp : (putO (putO l a) b).Perm (b :: a :: l) := (put_perm _ b).trans ((put_perm l a).cons b)
  have hs : RightO ((putO (putO l a) b).erase a) := h2.put.sub List.erase_sublist
  have he : ((putO (putO l a) b).erase a).Perm (b :: l) := by
    have := (hp.trans (List.Perm.swap a b l)).erase a
    rwa [List.erase_cons_head] at this
  obtain ⟨m1, e1⟩ := may_of h1.right hs he
  have hp2 : (putO (putO l a) b).Perm (a :: putO l b) := by
    rw [e1]
    exact List.perm_cons_erase (by rw [hp.mem_iff]; simp)
  obtain ⟨m2, e2⟩ := may_of m1.put h2.put hp2
  exact ⟨m1, m2, e2⟩

/-- The list with one less, the open, and why not. -/
def dropR (l : List Opn) (t : Opn) : List Opn × Opn × Int :=
  if RightO l then match findK l t.client t.handle with
    | some x => (cutO l (posO l t), x, 0)
    | none => ([], zeroO, 14)
  else ([], zeroO, 1)
/-- The list without a client's. -/
def clearL (l : List Opn) (c : Int) : List Opn := l.filter (fun x => decide (x.client ≠ c))
theorem clear_sub (l : List Opn) (c : Int) : (clearL l c).Sublist l := List.filter_sublist
theorem clear_no {l : List Opn} {c : Int} {x : Opn} (h : x ∈ clearL l c) : x.client ≠ c := by
  have := (List.mem_filter.1 h).2
  simpa using this
def clearR (l : List Opn) (c : Int) : List Opn × Int := if RightO l then (clearL l c, 0) else ([], 1)
end Go.Proofs.YtalkhhjfplahkaaGreat
namespace Go.Proofs.YtalkhhjfplahkaaGreat

/-- A holder. -/
structure Hol where
  client : Int
  mode : Int
deriving DecidableEq
def zeroH : Hol := ⟨0, 0⟩
/-- A lock. -/
structure Lk where
  file : Int
  epoch : Int
  used : Int
  cut : Int
  fenced : Bool
  gone : Bool
  hs : List Hol
deriving DecidableEq
def noL : Lk := ⟨0, 0, 0, 0, false, false, []⟩

theorem get_snoch {α : Type} {l : List α} {n : Nat} {x : α} (h : l[n]? = some x) : l.take (n + 1) = l.take n ++ [x] := by
  rw [List.take_add_one, h]; rfl

def cliLt (a b : Hol) : Prop := a.client < b.client
instance (a b : Hol) : Decidable (cliLt a b) := by unfold cliLt; exact inferInstance
def okH (u : Int) (n : Nat) (h : Hol) : Prop := (h.mode = 1 ∨ h.mode = 2) ∧ h.mode ≤ u ∧ ¬ (h.mode = 2 ∧ n ≠ 1)
instance (u : Int) (n : Nat) (h : Hol) : Decidable (okH u n h) := by unfold okH; exact inferInstance

/-- Whether a lock may be. -/
structure RightK (l : Lk) : Prop where
  used : l.used ≤ 2
  cut : l.cut ≤ 1024
  len : l.hs.length ≤ 4
  may : 0 < l.hs.length → l.fenced = true ∧ l.gone = false
  ok : ∀ h ∈ l.hs, okH l.used l.hs.length h
  rise : l.hs.Pairwise cliLt
instance (l : Lk) : Decidable (RightK l) :=
  decidable_of_iff (l.used ≤ 2 ∧ l.cut ≤ 1024 ∧ l.hs.length ≤ 4 ∧ (0 < l.hs.length → l.fenced = true ∧ l.gone = false) ∧ (∀ h ∈ l.hs, okH l.used l.hs.length h) ∧ l.hs.Pairwise cliLt)
    ⟨fun h => ⟨h.1, h.2.1, h.2.2.1, h.2.2.2.1, h.2.2.2.2.1, h.2.2.2.2.2⟩, fun h => ⟨h.used, h.cut, h.len, h.may, h.ok, h.rise⟩⟩

/-! Where a client is. -/
def isC (c : Int) (x : Hol) : Bool := decide (x.client = c)
def findC (l : List Hol) (c : Int) : Option Hol := l.find? (isC c)
theorem findC_some {l : List Hol} {c : Int} {x : Hol} (e : findC l c = some x) : x ∈ l ∧ x.client = c := ⟨List.mem_of_find?_eq_some e, by simpa [isC] using List.find?_some e⟩
theorem findC_none {l : List Hol} {c : Int} (e : findC l c = none) : ∀ x ∈ l, ¬ x.client = c := fun x hx k => (List.find?_eq_none.1 e x hx) (by simp [isC, k])
theorem findC_none_of {l : List Hol} {c : Int} (e : ∀ x ∈ l, ¬ x.client = c) : findC l c = none := List.find?_eq_none.2 fun x hx k => e x hx (by simpa [isC] using k)
theorem cli_inj {l : List Hol} (h : l.Pairwise cliLt) {x y : Hol} (hx : x ∈ l) (hy : y ∈ l) (e : x.client = y.client) : x = y := by
  obtain ⟨i, hi, rfl⟩ := List.getElem_of_mem hx
  obtain ⟨j, hj, rfl⟩ := List.getElem_of_mem hy
  rw [List.pairwise_iff_getElem] at h
  rcases Nat.lt_trichotomy i j with a | a | a
  · have := h i j hi hj a
    unfold cliLt at this
    omega
  · subst a; rfl
  · have := h j i hj hi a
    unfold cliLt at this
    omega
theorem findC_mem {l : List Hol} (h : l.Pairwise cliLt) {x : Hol} (hx : x ∈ l) : findC l x.client = some x := by
  cases e : findC l x.client with
  | none => exact absurd rfl (findC_none e x hx)
  | some y =>
    obtain ⟨h1, h2⟩ := findC_some e
    rw [cli_inj h h1 hx h2]
/-- A client's mode. -/
def modeH (l : List Hol) (c : Int) : Int := ((findC l c).map (·.mode)).getD 0
theorem modeH_some {l : List Hol} {c : Int} {x : Hol} (e : findC l c = some x) : modeH l c = x.mode := by simp [modeH, e]
theorem modeH_none {l : List Hol} {c : Int} (e : findC l c = none) : modeH l c = 0 := by simp [modeH, e]

/-- What lies ahead of a client. -/
def posC (l : List Hol) (c : Int) : Nat := l.countP (fun x => decide (x.client < c))
theorem posC_le (l : List Hol) (c : Int) : posC l c ≤ l.length := List.countP_le_length
theorem posC_iff {l : List Hol} (h : l.Pairwise cliLt) {c : Int} : ∀ {j : Nat} {x : Hol}, l[j]? = some x → (x.client < c ↔ j < posC l c) := by
  induction l with
  | nil => intro j x hx; simp at hx
  | cons a r ih =>
    rw [List.pairwise_cons] at h
    intro j x hx
    unfold posC
    rw [List.countP_cons]
    have hz : ¬ a.client < c → r.countP (fun x => decide (x.client < c)) = 0 := fun e => by
      rw [List.countP_eq_zero]
      intro y hy
      have := h.1 y hy
      unfold cliLt at this
      simp only [decide_eq_true_eq]
      omega
    cases j with
    | zero =>
      simp only [List.getElem?_cons_zero, Option.some.injEq] at hx
      subst hx
      by_cases e : a.client < c
      · simp [e]
      · rw [hz e]
        simp [e]
    | succ j =>
      simp only [List.getElem?_cons_succ] at hx
      have := ih h.2 hx
      unfold posC at this
      by_cases e : a.client < c
      · simp [e]
        omega
      · have hax := h.1 x (List.mem_of_getElem? hx)
        unfold cliLt at hax
        rw [hz e]
        simp [e]
        omega
theorem findC_pos {l : List Hol} (h : l.Pairwise cliLt) {c : Int} {x : Hol} (hx : findC l c = some x) : l[posC l c]? = some x := by
  obtain ⟨h1, h2⟩ := findC_some hx
  obtain ⟨j, hj, rfl⟩ := List.getElem_of_mem h1
  have hjx : l[j]? = some l[j] := List.getElem?_eq_getElem hj
  have hn : ¬ j < posC l c := fun e => by have := (posC_iff h hjx).2 e; omega
  have hp' : l[posC l c]? = some (l[posC l c]'(by omega)) := List.getElem?_eq_getElem (by omega)
  rw [hp']
  have h4 : ¬ (l[posC l c]'(by omega)).client < c := fun e => by have := (posC_iff h hp').1 e; omega
  rcases Nat.lt_or_ge (posC l c) j with e | e
  · have := (List.pairwise_iff_getElem.1 h) (posC l c) j (by omega) hj e
    unfold cliLt at this
    omega
  · have e' : posC l c = j := by omega
    simp only [e']
theorem findC_at {l : List Hol} (h : l.Pairwise cliLt) (c : Int) : findC l c = match l[posC l c]? with | some x => if x.client = c then some x else none | none => none := by
  cases hg : findC l c with
  | some x =>
    rw [findC_pos h hg]
    simp [(findC_some hg).2]
  | none =>
    cases hp : l[posC l c]? with
    | none => rfl
    | some x =>
      have := findC_none hg x (List.mem_of_getElem? hp)
      simp [this]

/-- The others whose holds conflict. -/
def isO (c m : Int) (x : Hol) : Bool := decide (x.client ≠ c ∧ (m ≠ 1 ∨ x.mode = 2))
def othersL (l : List Hol) (c m : Int) : List Int := (l.filter (isO c m)).map (·.client)
theorem others_snoc (l : List Hol) (c m : Int) (x : Hol) : othersL (l ++ [x]) c m = othersL l c m ++ (if isO c m x then [x.client] else []) := by
  unfold othersL
  rw [List.filter_append, List.map_append]
  congr 1
  by_cases e : isO c m x <;> simp [e]
theorem others_le (l : List Hol) (c m : Int) : (othersL l c m).length ≤ l.length := by
  unfold othersL
  rw [List.length_map]
  exact List.length_filter_le _ _

/-- Without a client's. -/
def noC (c : Int) (x : Hol) : Bool := decide (x.client ≠ c)
def withoutH (l : List Hol) (c : Int) : List Hol := l.filter (noC c)
theorem without_snoc (l : List Hol) (c : Int) (x : Hol) : withoutH (l ++ [x]) c = withoutH l c ++ (if noC c x then [x] else []) := by
  unfold withoutH
  rw [List.filter_append]
  congr 1
  by_cases e : noC c x <;> simp [e]
theorem without_sub (l : List Hol) (c : Int) : (withoutH l c).Sublist l := List.filter_sublist
theorem without_none {l : List Hol} {c : Int} (h : findC l c = none) : withoutH l c = l := by
  unfold withoutH
  rw [List.filter_eq_self]
  intro x hx
  simpa [noC] using findC_none h x hx
theorem without_no {l : List Hol} {c : Int} : findC (withoutH l c) c = none := findC_none_of fun x hx => by
  have := (List.mem_filter.1 hx).2
  simpa [noC] using this
theorem without_at {l : List Hol} (h : l.Pairwise cliLt) {c : Int} {x : Hol} (hx : findC l c = some x) : withoutH l c = l.take (posC l c) ++ l.drop (posC l c + 1) := by
  have hp := findC_pos h hx
  have hc := (findC_some hx).2
  have h1 := List.take_append_drop (posC l c + 1) l
  rw [get_snoch hp] at h1
  have ha : ∀ y ∈ l.take (posC l c), noC c y = true := fun y hy => by
    obtain ⟨j, hj, rfl⟩ := List.getElem_of_mem hy
    rw [List.length_take] at hj
    have hx : l[j]? = some l[j] := List.getElem?_eq_getElem (by omega)
    have := (posC_iff h (c := c) hx).2 (by omega)
    rw [List.getElem_take]
    simp only [noC, decide_eq_true_eq]
    omega
  have hb : ∀ y ∈ l.drop (posC l c + 1), noC c y = true := fun y hy => by
    obtain ⟨j, hj, rfl⟩ := List.getElem_of_mem hy
    rw [List.length_drop] at hj
    have := (List.pairwise_iff_getElem.1 h) (posC l c) (posC l c + 1 + j) (by omega) (by omega) (by omega)
    obtain ⟨i1, e1⟩ := List.getElem?_eq_some_iff.1 hp
    rw [e1] at this
    unfold cliLt at this
    rw [List.getElem_drop]
    simp only [noC, decide_eq_true_eq]
    omega
  unfold withoutH
  conv => lhs; rw [← h1]
  rw [List.filter_append, List.filter_append, List.filter_eq_self.2 ha, List.filter_eq_self.2 hb]
  simp [noC, hc]

/-- With one more. -/
def insH (l : List Hol) (x : Hol) : List Hol := l.take (posC l x.client) ++ x :: l.drop (posC l x.client)
theorem ins_perm (l : List Hol) (x : Hol) : (insH l x).Perm (x :: l) := by
  have h := List.perm_middle (a := x) (l₁ := l.take (posC l x.client)) (l₂ := l.drop (posC l x.client))
  rwa [List.take_append_drop] at h
theorem ins_length (l : List Hol) (x : Hol) : (insH l x).length = l.length + 1 := by simpa using (ins_perm l x).length_eq
theorem ins_rise {l : List Hol} {x : Hol} (h : l.Pairwise cliLt) (hn : findC l x.client = none) : (insH l x).Pairwise cliLt := by
  unfold insH
  have hs : (l.take (posC l x.client) ++ l.drop (posC l x.client)).Pairwise cliLt := by rwa [List.take_append_drop]
  rw [List.pairwise_append] at hs ⊢
  have ha : ∀ a ∈ l.take (posC l x.client), cliLt a x := fun a ha => by
    obtain ⟨j, hj, rfl⟩ := List.getElem_of_mem ha
    rw [List.length_take] at hj
    have hx : l[j]? = some l[j] := List.getElem?_eq_getElem (by omega)
    have := (posC_iff h (c := x.client) hx).2 (by omega)
    rw [List.getElem_take]
    exact this
  have hb : ∀ b ∈ l.drop (posC l x.client), cliLt x b := fun b hb => by
    obtain ⟨j, hj, rfl⟩ := List.getElem_of_mem hb
    rw [List.length_drop] at hj
    have hx : l[posC l x.client + j]? = some (l[posC l x.client + j]'(by omega)) := List.getElem?_eq_getElem (by omega)
    have h1 : ¬ (l[posC l x.client + j]'(by omega)).client < x.client := fun e => by have := (posC_iff h hx).1 e; omega
    have h2 := findC_none hn _ (List.mem_of_getElem? hx)
    rw [List.getElem_drop]
    unfold cliLt
    omega
  refine ⟨hs.1, List.pairwise_cons.2 ⟨hb, hs.2.1⟩, fun a h1 b h2 => ?_⟩
  rw [List.mem_cons] at h2
  rcases h2 with rfl | h2
  · exact ha a h1
  · exact hs.2.2 a h1 b h2
theorem ins_mem {l : List Hol} {x y : Hol} : y ∈ insH l x ↔ y = x ∨ y ∈ l := by rw [(ins_perm l x).mem_iff, List.mem_cons]

/-- Another epoch. -/
def turnL (l : Lk) : Lk := if l.epoch = 4294967295 then l else ⟨l.file, l.epoch + 1, 0, l.cut, false, l.gone, []⟩
def maxI (a b : Int) : Int := if a < b then b else a
def mayJ (u m : Int) : Prop := (m = 1 ∧ u ≠ 2) ∨ u = 0
instance (u m : Int) : Decidable (mayJ u m) := by unfold mayJ; exact inferInstance
/-- A client without a hold asks, where no other one's conflicts. -/
def joinL (l : Lk) (c m : Int) : Lk × Int :=
  if l.fenced = false then (l, 3) else if ¬ mayJ l.used m then (turnL l, 3) else if 4 ≤ l.hs.length then (l, 2) else (⟨l.file, l.epoch, maxI l.used m, l.cut, l.fenced, l.gone, insH l.hs ⟨c, m⟩⟩, 1)
def withL (l : Lk) (hs : List Hol) : Lk := ⟨l.file, l.epoch, l.used, l.cut, l.fenced, l.gone, hs⟩
def askL (l : Lk) (c m : Int) : Lk × Int × Int :=
  if ¬ (RightK l ∧ (m = 1 ∨ m = 2)) then (noL, 0, 1) else if l.gone = true then (l, 4, 0) else if othersL l.hs c m ≠ [] then (l, 2, 0) else if m ≤ modeH l.hs c then (l, 1, 0)
  else ((joinL (withL l (withoutH l.hs c)) c m).1, (joinL (withL l (withoutH l.hs c)) c m).2, 0)
theorem ask_arg {l : Lk} {c m : Int} (h : ¬ (RightK l ∧ (m = 1 ∨ m = 2))) : askL l c m = (noL, 0, 1) := by unfold askL; rw [if_pos h]
theorem ask_gone {l : Lk} {c m : Int} (h : RightK l ∧ (m = 1 ∨ m = 2)) (h1 : l.gone = true) : askL l c m = (l, 4, 0) := by unfold askL; rw [if_neg (fun k => k h), if_pos h1]
theorem ask_conf {l : Lk} {c m : Int} (h : RightK l ∧ (m = 1 ∨ m = 2)) (h1 : l.gone = false) (h2 : othersL l.hs c m ≠ []) : askL l c m = (l, 2, 0) := by unfold askL; rw [if_neg (fun k => k h), if_neg (by simp [h1]), if_pos h2]
theorem ask_has {l : Lk} {c m : Int} (h : RightK l ∧ (m = 1 ∨ m = 2)) (h1 : l.gone = false) (h2 : othersL l.hs c m = []) (h3 : m ≤ modeH l.hs c) : askL l c m = (l, 1, 0) := by unfold askL; rw [if_neg (fun k => k h), if_neg (by simp [h1]), if_neg (by simp [h2]), if_pos h3]
theorem ask_join {l : Lk} {c m : Int} (h : RightK l ∧ (m = 1 ∨ m = 2)) (h1 : l.gone = false) (h2 : othersL l.hs c m = []) (h3 : ¬ m ≤ modeH l.hs c) : askL l c m = ((joinL (withL l (withoutH l.hs c)) c m).1, (joinL (withL l (withoutH l.hs c)) c m).2, 0) := by
  unfold askL; rw [if_neg (fun k => k h), if_neg (by simp [h1]), if_neg (by simp [h2]), if_neg h3]
def returnL (l : Lk) (c e : Int) : Lk × Int := if ¬ RightK l then (noL, 1) else (if e = l.epoch then withL l (withoutH l.hs c) else l, 0)
def revokeL (l : Lk) : Lk × Int := if ¬ RightK l then (noL, 1) else (turnL l, 0)
def settleL (l : Lk) (e s : Int) : Lk × Int := if ¬ (RightK l ∧ s ≤ 1024) then (noL, 1) else (if l.fenced = false ∧ e = l.epoch then ⟨l.file, l.epoch, l.used, s, true, l.gone, l.hs⟩ else l, 0)
def minI (a b : Int) : Int := if b < a then b else a
def shrinkL (l : Lk) (s : Int) : Lk × Int := if ¬ RightK l then (noL, 1) else (⟨l.file, l.epoch, l.used, minI l.cut s, l.fenced, l.gone, l.hs⟩, 0)
/-- The program's Mode. -/
def modeL (l : Lk) (c : Int) : Int := if RightK l then modeH l.hs c else 0
def othL (l : Lk) (c m : Int) : List Int := if RightK l then othersL l.hs c m else []

/-! What is answered is right. -/
theorem okH.fewer {u : Int} {n k : Nat} {h : Hol} (o : okH u n h) (hk : k ≤ n) (h0 : 0 < k) : okH u k h := by unfold okH at *; omega
theorem RightK.sub {l : Lk} (h : RightK l) {hs : List Hol} (s : hs.Sublist l.hs) : RightK (withL l hs) := by
  have hle := s.length_le
  refine ⟨h.used, h.cut, by have := h.len; simp only [withL]; omega, fun h0 => h.may (by simp only [withL] at h0; omega), fun x hx => ?_, h.rise.sublist s⟩
  simp only [withL] at hx ⊢
  exact (h.ok x (s.subset hx)).fewer hle (List.length_pos_of_mem hx)
theorem RightK.empty {f e u k : Int} {fe go : Bool} (h1 : u ≤ 2) (h2 : k ≤ 1024) : RightK ⟨f, e, u, k, fe, go, []⟩ := ⟨h1, h2, by simp, by simp, by simp, by simp⟩
theorem RightK.turn {l : Lk} (h : RightK l) : RightK (turnL l) := by
  unfold turnL
  split
  · exact h
  · exact RightK.empty (by omega) h.cut
theorem noOther {l : List Hol} {c m : Int} (h : othersL l c m = []) {x : Hol} (hx : x ∈ l) (hc : x.client ≠ c) : m = 1 ∧ x.mode ≠ 2 := by
  unfold othersL at h
  rw [List.map_eq_nil_iff, List.filter_eq_nil_iff] at h
  have := h x hx
  simp only [isO, decide_eq_true_eq] at this
  by_cases e : m = 1 <;> by_cases e2 : x.mode = 2 <;> simp_all
theorem others_sub {l : List Hol} {c m : Int} {k : List Hol} (s : k.Sublist l) (h : othersL l c m = []) : othersL k c m = [] := by
  unfold othersL at *
  rw [List.map_eq_nil_iff] at *
  rw [List.filter_eq_nil_iff] at *
  exact fun x hx => h x (s.subset hx)
theorem RightK.join {l : Lk} (h : RightK l) {c m : Int} (hm : m = 1 ∨ m = 2) (hg : l.gone = false) (ho : othersL l.hs c m = []) (hn : findC l.hs c = none) : RightK (joinL l c m).1 := by
  unfold joinL
  split
  · exact h
  rename_i hf
  split
  · exact h.turn
  rename_i hj
  split
  · exact h
  rename_i h4
  rw [Classical.not_not] at hj
  have hf' : l.fenced = true := by simpa using hf
  have hu := h.used
  have hmax : maxI l.used m ≤ 2 := by unfold maxI; split <;> omega
  refine ⟨hmax, h.cut, by simp only [ins_length]; omega, fun _ => ⟨hf', hg⟩, fun x hx => ?_, ins_rise h.rise hn⟩
  simp only [ins_length]
  simp only [ins_mem] at hx
  rcases hx with rfl | hx
  · refine ⟨hm, by unfold maxI; simp only; split <;> omega, fun hh => ?_⟩
    simp only at hh
    have h0 : l.used = 0 := by unfold mayJ at hj; omega
    have he : l.hs = [] := by
      rw [List.eq_nil_iff_forall_not_mem]
      intro y hy
      have := h.ok y hy
      unfold okH at this
      omega
    simp [he] at hh
  · have ho' := noOther ho hx (findC_none hn x hx)
    have := h.ok x hx
    unfold okH at this ⊢
    refine ⟨this.1, ?_, fun hh => ho'.2 hh.1⟩
    unfold maxI
    split <;> omega
theorem RightK.ask {l : Lk} {c m : Int} (h : RightK l) (hm : m = 1 ∨ m = 2) : RightK (askL l c m).1 := by
  by_cases h1 : l.gone = true
  · rw [ask_gone ⟨h, hm⟩ h1]; exact h
  have h1' : l.gone = false := by simpa using h1
  by_cases h2 : othersL l.hs c m = []
  rotate_left
  · rw [ask_conf ⟨h, hm⟩ h1' h2]; exact h
  by_cases h3 : m ≤ modeH l.hs c
  · rw [ask_has ⟨h, hm⟩ h1' h2 h3]; exact h
  rw [ask_join ⟨h, hm⟩ h1' h2 h3]
  exact RightK.join (h.sub (without_sub _ _)) hm h1' (others_sub (without_sub _ _) h2) without_no
theorem ask_ok {l : Lk} {c m : Int} (h : RightK l) (hm : m = 1 ∨ m = 2) : (askL l c m).2.2 = 0 := by
  by_cases h1 : l.gone = true
  · rw [ask_gone ⟨h, hm⟩ h1]
  have h1' : l.gone = false := by simpa using h1
  by_cases h2 : othersL l.hs c m = []
  rotate_left
  · rw [ask_conf ⟨h, hm⟩ h1' h2]
  by_cases h3 : m ≤ modeH l.hs c
  · rw [ask_has ⟨h, hm⟩ h1' h2 h3]
  rw [ask_join ⟨h, hm⟩ h1' h2 h3]
end Go.Proofs.YtalkhhjfplahkaaGreat
namespace Go.Proofs.YtalkhhjfplahkaaGreat
open Go.RowKit

/-- A work. -/
structure Wk where
  file : Int
  client : Int
  life : Int
  seq : Int
  code : Int
  off : Int
  len : Int
  data : List UInt8
/-- A client that was heard, and its last answer. -/
structure Sea where
  client : Int
  pk : Pk
/-- A state. -/
structure Sta where
  boot : Int
  next : Int
  tree : List Nd
  opens : List Opn
  locks : List Lk
  works : List Wk
  seats : List Sea
/-- A row that is to be. -/
structure Ch where
  key : List UInt8
  val : List UInt8
  gone : Bool
deriving DecidableEq

/-! Numbers that fit. -/
structure Nd.Fit (x : Nd) : Prop where
  id : U x.id
  par : U x.par
  size : U x.size
structure Opn.Fit (x : Opn) : Prop where
  client : U x.client
  handle : U x.handle
  file : U x.file
  access : U x.access
  deny : x.deny < 4294967296
structure Hol.Fit (x : Hol) : Prop where
  client : U x.client
  mode : U x.mode
structure Lk.Fit (x : Lk) : Prop where
  file : U x.file
  epoch : U x.epoch
  used : U x.used
  cut : U x.cut
  hs : ∀ h ∈ x.hs, h.Fit
structure Wk.Fit (x : Wk) : Prop where
  file : U x.file
  client : U x.client
  life : U x.life
  seq : U x.seq
  code : I x.code
  off : U x.off
  len : U x.len
structure Sea.Fit (x : Sea) : Prop where
  client : U x.client
  pk : x.pk.Ok
structure Sta.Fit (s : Sta) : Prop where
  boot : U s.boot
  next : U s.next
  tree : ∀ x ∈ s.tree, x.Fit
  opens : ∀ x ∈ s.opens, x.Fit
  locks : ∀ x ∈ s.locks, x.Fit
  works : ∀ x ∈ s.works, x.Fit
  seats : ∀ x ∈ s.seats, x.Fit

/-! Which may be. -/
def cliB (n : Int) : Bool := decide (17 ≤ n) && decide (n < 21)
def isFileL (t : List Nd) (i : Int) : Bool := t.any (fun n => n.id == i && !n.dir)
structure TreeR (s : Sta) : Prop where
  tree : Tree s.tree
  last : ∀ n, s.tree.getLast? = some n → n.id < s.next
structure OpensR (s : Sta) : Prop where
  right : RightO s.opens
  each : ∀ o ∈ s.opens, cliB o.client = true ∧ isFileL s.tree o.file = true
structure LockR (l : Lk) : Prop where
  above : 1 < l.file
  right : RightK l
  each : ∀ h ∈ l.hs, h.client = 0 ∨ cliB h.client = true
def fileLt (a b : Lk) : Prop := a.file < b.file
structure LocksR (s : Sta) : Prop where
  len : s.locks.length ≤ 40
  each : ∀ l ∈ s.locks, LockR l ∧ l.file < s.next ∧ (l.gone = false → isFileL s.tree l.file = true)
  rise : s.locks.Pairwise fileLt
  count : s.tree.countP (fun n => !n.dir) = s.locks.countP (fun l => !l.gone)
structure WorkR (w : Wk) : Prop where
  client : cliB w.client = true
  low : 1 ≤ w.len
  high : w.len ≤ 64
  sum : w.off + w.len ≤ 1024
  data : (w.code = 23 ∧ w.data = []) ∨ (w.code = 24 ∧ (w.data.length : Int) = w.len)
def wkLt (a b : Wk) : Prop := a.file < b.file
structure WorksR (s : Sta) : Prop where
  each : ∀ w ∈ s.works, isFileL s.tree w.file = true ∧ WorkR w
  rise : s.works.Pairwise wkLt
structure SeatR (h : Sea) : Prop where
  client : cliB h.client = true
  right : h.pk.Right
  kind : h.pk.kind = 2
  dst : h.pk.to = h.client
  path : h.pk.path = ⟨#[]⟩
  other : h.pk.other = ⟨#[]⟩
  data : h.pk.data.size ≤ 108
def seaLt (a b : Sea) : Prop := a.client < b.client
structure SeatsR (s : Sta) : Prop where
  each : ∀ h ∈ s.seats, SeatR h
  rise : s.seats.Pairwise seaLt
structure RightS (s : Sta) : Prop where
  tree : TreeR s
  opens : OpensR s
  locks : LocksR s
  works : WorksR s
  seats : SeatsR s

/-! Its rows. -/
def holN : List Hol → List Nat
  | [] => []
  | h :: r => h.client.toNat :: h.mode.toNat :: holN r
def bootR (n : Int) : Ch := ⟨[66], encNs [n.toNat], false⟩
def nextR (n : Int) : Ch := ⟨[73], encNs [n.toNat], false⟩
def lockR (l : Lk) : Ch := ⟨76 :: encNs [l.file.toNat], encNs [l.epoch.toNat, l.used.toNat, l.cut.toNat] ++ (be4 l.fenced.toNat ++ (be4 l.gone.toNat ++ encL (holN l.hs))), false⟩
def nodeR (n : Nd) : Ch := ⟨78 :: encNs [n.id.toNat], encNs [n.par.toNat] ++ (be4 n.dir.toNat ++ (encNs [n.size.toNat] ++ encT n.name)), false⟩
def openR (o : Opn) : Ch := ⟨79 :: encNs [o.client.toNat, o.handle.toNat], encNs [o.file.toNat, o.access.toNat, o.deny], false⟩
def seatR (h : Sea) : Ch := ⟨83 :: encNs [h.client.toNat], bytesP h.pk, false⟩
def workR (w : Wk) : Ch := ⟨87 :: encNs [w.file.toNat], encNs [w.client.toNat, w.life.toNat, w.seq.toNat, w.code.toNat, w.off.toNat, w.len.toNat] ++ encT w.data, false⟩
def rowsL (s : Sta) : List Ch := [bootR s.boot, nextR s.next] ++ s.locks.map lockR ++ s.tree.tail.map nodeR ++ s.opens.map openR ++ s.seats.map seatR ++ s.works.map workR

/-! The state of rows. -/
def pairsH : List Nat → List Hol
  | a :: b :: r => ⟨(a : Int), (b : Int)⟩ :: pairsH r
  | _ => []
def fl1 (p : List UInt8 × Nat) : Bool := (rFlag p.1 p.2).1
def fl2 (p : List UInt8 × Nat) : List UInt8 × Nat := (rFlag p.1 p.2).2
def nu1 (p : List UInt8 × Nat) : Nat := (rNumber p.1 p.2).1
def nu2 (p : List UInt8 × Nat) : List UInt8 × Nat := (rNumber p.1 p.2).2
def tx1 (m : Int) (p : List UInt8 × Nat) : List UInt8 := (rText m p.1 p.2).1
def ls1 (m : Int) (p : List UInt8 × Nat) : List Nat := (rList m p.1 p.2).1
def lockOf (k v : List UInt8) : Lk := ⟨(numAt k 0 : Nat), (numAt v 0 : Nat), (numAt v 1 : Nat), (numAt v 2 : Nat), fl1 (rds v 3), fl1 (fl2 (rds v 3)), pairsH (ls1 8 (fl2 (fl2 (rds v 3))))⟩
def nodeOf (k v : List UInt8) : Nd := ⟨(numAt k 0 : Nat), (numAt v 0 : Nat), tx1 8 (nu2 (fl2 (rds v 1))), fl1 (rds v 1), (nu1 (fl2 (rds v 1)) : Nat)⟩
def openOf (k v : List UInt8) : Opn := ⟨(numAt k 0 : Nat), (numAt k 1 : Nat), (numAt v 0 : Nat), (numAt v 1 : Nat), numAt v 2⟩
def seatOf (k v : List UInt8) : Sea := ⟨(numAt k 0 : Nat), readP v⟩
def workOf (k v : List UInt8) : Wk := ⟨(numAt k 0 : Nat), (numAt v 0 : Nat), (numAt v 1 : Nat), (numAt v 2 : Nat), (numAt v 3 : Nat), (numAt v 4 : Nat), (numAt v 5 : Nat), tx1 64 (rds v 6)⟩
/-- What a row says, whatever it says. -/
def oneL (s : Sta) (c : Ch) : Sta := match c.key with
  | [] => s
  | a :: k => if a = 66 then { s with boot := (numAt c.val 0 : Nat) } else if a = 73 then { s with next := (numAt c.val 0 : Nat) } else if a = 76 then { s with locks := s.locks ++ [lockOf k c.val] } else if a = 78 then { s with tree := s.tree ++ [nodeOf k c.val] } else if a = 79 then { s with opens := s.opens ++ [openOf k c.val] } else if a = 83 then { s with seats := s.seats ++ [seatOf k c.val] } else if a = 87 then { s with works := s.works ++ [workOf k c.val] } else s
def knownB (c : Ch) : Bool := match c.key with
  | [] => false
  | a :: _ => a == 66 || a == 73 || a == 76 || a == 78 || a == 79 || a == 83 || a == 87
def zeroS : Sta := ⟨0, 0, [], [], [], [], []⟩
def freshS : Sta := ⟨0, 2, [rootN], [], [], [], []⟩
def baseS : Sta := ⟨0, 0, [rootN], [], [], [], []⟩

/-! Told and read. -/
theorem U.lt {x : Int} (h : U x) : x.toNat < 4294967296 := by unfold U at h; omega
theorem U.back {x : Int} (h : U x) : ((x.toNat : Nat) : Int) = x := Int.toNat_of_nonneg h.1
theorem holN_length (l : List Hol) : (holN l).length = 2 * l.length := by
  induction l with
  | nil => rfl
  | cons a r ih => simp only [holN, List.length_cons, ih]; omega
theorem holN_lt {l : List Hol} (h : ∀ x ∈ l, x.Fit) : ∀ n ∈ holN l, n < 4294967296 := by
  induction l with
  | nil => intro n hn; simp [holN] at hn
  | cons a r ih =>
    intro n hn
    have ha := h a (by simp)
    simp only [holN, List.mem_cons] at hn
    rcases hn with rfl | rfl | hn
    · exact ha.client.lt
    · exact ha.mode.lt
    · exact ih (fun x hx => h x (by simp [hx])) n hn
theorem pairs_back {l : List Hol} (h : ∀ x ∈ l, x.Fit) : pairsH (holN l) = l := by
  induction l with
  | nil => rfl
  | cons a r ih =>
    have ha := h a (by simp)
    simp only [holN, pairsH]
    rw [ih (fun x hx => h x (by simp [hx])), ha.client.back, ha.mode.back]

theorem fl1_mk (x : List UInt8) (n : Nat) : fl1 (x, n) = (rFlag x n).1 := rfl
theorem fl2_mk (x : List UInt8) (n : Nat) : fl2 (x, n) = (rFlag x n).2 := rfl
theorem nu1_mk (x : List UInt8) (n : Nat) : nu1 (x, n) = (rNumber x n).1 := rfl
theorem nu2_mk (x : List UInt8) (n : Nat) : nu2 (x, n) = (rNumber x n).2 := rfl
theorem tx1_mk (m : Int) (x : List UInt8) (n : Nat) : tx1 m (x, n) = (rText m x n).1 := rfl
theorem ls1_mk (m : Int) (x : List UInt8) (n : Nat) : ls1 m (x, n) = (rList m x n).1 := rfl
theorem fl1_enc (b : Bool) (r : List UInt8) : fl1 (be4 b.toNat ++ r, 0) = b := by rw [fl1_mk, rFlag_be4]
theorem fl2_enc (b : Bool) (r : List UInt8) : fl2 (be4 b.toNat ++ r, 0) = (r, 0) := by rw [fl2_mk, rFlag_be4]
theorem nu1_enc {n : Nat} (h : n < 4294967296) (r : List UInt8) : nu1 (be4 n ++ r, 0) = n := by rw [nu1_mk, rNumber_be4 n r h]
theorem nu2_enc {n : Nat} (h : n < 4294967296) (r : List UInt8) : nu2 (be4 n ++ r, 0) = (r, 0) := by rw [nu2_mk, rNumber_be4 n r h]
theorem tx1_enc {m : Int} {s : List UInt8} (h : (s.length : Int) ≤ m) (h2 : s.length < 4294967296) : tx1 m (encT s, 0) = s := by
  have := rText_encT m s [] h h2
  rw [List.append_nil] at this
  rw [tx1_mk, this]
theorem ls1_enc {m : Int} {l : List Nat} (h : (l.length : Int) ≤ m) (h2 : l.length < 4294967296) (hu : ∀ n ∈ l, n < 4294967296) : ls1 m (encL l, 0) = l := by
  have := rList_encL m l [] h h2 hu
  rw [List.append_nil] at this
  rw [ls1_mk, this]
theorem lts {l : List Int} (h : ∀ x ∈ l, U x) : ∀ n ∈ l.map Int.toNat, n < 4294967296 := by
  intro n hn
  obtain ⟨x, hx, rfl⟩ := List.mem_map.1 hn
  exact (h x hx).lt

theorem boot_back (s : Sta) {n : Int} (h : U n) : oneL s (bootR n) = { s with boot := n } := by
  have e := numAt_enc [n.toNat] (by simpa using h.lt) [] 0 (by simp)
  rw [List.append_nil] at e
  show ({ s with boot := ((numAt (encNs [n.toNat]) 0 : Nat) : Int) } : Sta) = _
  rw [e]
  simp [h.back]
theorem next_back (s : Sta) {n : Int} (h : U n) : oneL s (nextR n) = { s with next := n } := by
  have e := numAt_enc [n.toNat] (by simpa using h.lt) [] 0 (by simp)
  rw [List.append_nil] at e
  show ({ s with next := ((numAt (encNs [n.toNat]) 0 : Nat) : Int) } : Sta) = _
  rw [e]
  simp [h.back]
theorem key_back {n : Int} (h : U n) : ((numAt (encNs [n.toNat]) 0 : Nat) : Int) = n := by
  have e := numAt_enc [n.toNat] (by simpa using h.lt) [] 0 (by simp)
  rw [List.append_nil] at e
  rw [e]
  exact h.back
theorem lock_back (s : Sta) {l : Lk} (h : l.Fit) (hr : LockR l) : oneL s (lockR l) = { s with locks := s.locks ++ [l] } := by
  show ({ s with locks := s.locks ++ [lockOf (encNs [l.file.toNat]) (lockR l).val] } : Sta) = _
  have hlt : ∀ n ∈ [l.epoch.toNat, l.used.toNat, l.cut.toNat], n < 4294967296 := by
    intro n hn
    simp only [List.mem_cons, List.not_mem_nil, or_false] at hn
    rcases hn with rfl | rfl | rfl
    · exact h.epoch.lt
    · exact h.used.lt
    · exact h.cut.lt
  have e := fun k hk => numAt_enc _ hlt (be4 l.fenced.toNat ++ (be4 l.gone.toNat ++ encL (holN l.hs))) k hk
  have e3 : rds (lockR l).val 3 = (be4 l.fenced.toNat ++ (be4 l.gone.toNat ++ encL (holN l.hs)), 0) := by
    have := rds_enc _ hlt (be4 l.fenced.toNat ++ (be4 l.gone.toNat ++ encL (holN l.hs))) 3 (by simp)
    exact this.trans rfl
  have hl := hr.right.len
  have hh := holN_length l.hs
  have q : lockOf (encNs [l.file.toNat]) (lockR l).val = l := by
    unfold lockOf
    rw [e3, fl1_enc, fl2_enc, fl1_enc, fl2_enc, ls1_enc (by rw [hh]; omega) (by rw [hh]; omega) (holN_lt h.hs), pairs_back h.hs, key_back h.file]
    have a0 := e 0 (by simp)
    have a1 := e 1 (by simp)
    have a2 := e 2 (by simp)
    change numAt (lockR l).val 0 = _ at a0
    change numAt (lockR l).val 1 = _ at a1
    change numAt (lockR l).val 2 = _ at a2
    rw [a0, a1, a2]
    simp [h.epoch.back, h.used.back, h.cut.back]
  rw [q]
theorem nm_len {s : List UInt8} (h : nmB s = true) : s.length ≤ 8 := by
  unfold nmB at h
  simp only [Bool.and_eq_true, decide_eq_true_eq] at h
  exact h.1.1.1.2
theorem node_back (s : Sta) {n : Nd} (h : n.Fit) (hn : n.name.length ≤ 8) : oneL s (nodeR n) = { s with tree := s.tree ++ [n] } := by
  show ({ s with tree := s.tree ++ [nodeOf (encNs [n.id.toNat]) (nodeR n).val] } : Sta) = _
  have hlt : ∀ k ∈ [n.par.toNat], k < 4294967296 := by simpa using h.par.lt
  have a0 := numAt_enc _ hlt (be4 n.dir.toNat ++ (encNs [n.size.toNat] ++ encT n.name)) 0 (by simp)
  change numAt (nodeR n).val 0 = _ at a0
  have e1 : rds (nodeR n).val 1 = (be4 n.dir.toNat ++ (encNs [n.size.toNat] ++ encT n.name), 0) := by
    have := rds_enc _ hlt (be4 n.dir.toNat ++ (encNs [n.size.toNat] ++ encT n.name)) 1 (by simp)
    exact this.trans rfl
  have q : nodeOf (encNs [n.id.toNat]) (nodeR n).val = n := by
    unfold nodeOf
    rw [e1, fl1_enc, fl2_enc, show encNs [n.size.toNat] ++ encT n.name = be4 n.size.toNat ++ encT n.name by simp [encNs], nu1_enc h.size.lt, nu2_enc h.size.lt, tx1_enc (by omega) (by omega), key_back h.id, a0]
    simp [h.par.back, h.size.back]
  rw [q]
theorem open_back (s : Sta) {o : Opn} (h : o.Fit) : oneL s (openR o) = { s with opens := s.opens ++ [o] } := by
  show ({ s with opens := s.opens ++ [openOf (encNs [o.client.toNat, o.handle.toNat]) (encNs [o.file.toNat, o.access.toNat, o.deny])] } : Sta) = _
  have hk : ∀ n ∈ [o.client.toNat, o.handle.toNat], n < 4294967296 := by
    intro n hn
    simp only [List.mem_cons, List.not_mem_nil, or_false] at hn
    rcases hn with rfl | rfl
    · exact h.client.lt
    · exact h.handle.lt
  have hv : ∀ n ∈ [o.file.toNat, o.access.toNat, o.deny], n < 4294967296 := by
    intro n hn
    simp only [List.mem_cons, List.not_mem_nil, or_false] at hn
    rcases hn with rfl | rfl | rfl
    · exact h.file.lt
    · exact h.access.lt
    · exact h.deny
  have k0 := numAt_enc _ hk [] 0 (by simp)
  have k1 := numAt_enc _ hk [] 1 (by simp)
  have v0 := numAt_enc _ hv [] 0 (by simp)
  have v1 := numAt_enc _ hv [] 1 (by simp)
  have v2 := numAt_enc _ hv [] 2 (by simp)
  rw [List.append_nil] at k0 k1 v0 v1 v2
  have q : openOf (encNs [o.client.toNat, o.handle.toNat]) (encNs [o.file.toNat, o.access.toNat, o.deny]) = o := by
    unfold openOf
    rw [k0, k1, v0, v1, v2]
    simp [h.client.back, h.handle.back, h.file.back, h.access.back]
  rw [q]
theorem seat_back (s : Sta) {x : Sea} (h : x.Fit) (hr : x.pk.Right) : oneL s (seatR x) = { s with seats := s.seats ++ [x] } := by
  show ({ s with seats := s.seats ++ [seatOf (encNs [x.client.toNat]) (bytesP x.pk)] } : Sta) = _
  have q : seatOf (encNs [x.client.toNat]) (bytesP x.pk) = x := by
    unfold seatOf
    rw [key_back h.client, (read_back x.pk h.pk hr).2]
  rw [q]
theorem WorkR.code {w : Wk} (h : WorkR w) : 0 ≤ w.code ∧ w.code ≤ 30 := by
  rcases h.data with ⟨e, _⟩ | ⟨e, _⟩ <;> omega
theorem WorkR.len64 {w : Wk} (h : WorkR w) : w.data.length ≤ 64 := by
  have := h.high
  rcases h.data with ⟨_, e⟩ | ⟨_, e⟩
  · rw [e]; simp
  · omega
theorem work_back (s : Sta) {x : Wk} (h : x.Fit) (hr : WorkR x) : oneL s (workR x) = { s with works := s.works ++ [x] } := by
  show ({ s with works := s.works ++ [workOf (encNs [x.file.toNat]) (workR x).val] } : Sta) = _
  have hc := hr.code
  have hd := hr.len64
  have hlt : ∀ n ∈ [x.client.toNat, x.life.toNat, x.seq.toNat, x.code.toNat, x.off.toNat, x.len.toNat], n < 4294967296 := by
    intro n hn
    simp only [List.mem_cons, List.not_mem_nil, or_false] at hn
    rcases hn with rfl | rfl | rfl | rfl | rfl | rfl
    · exact h.client.lt
    · exact h.life.lt
    · exact h.seq.lt
    · omega
    · exact h.off.lt
    · exact h.len.lt
  have e := fun k hk => numAt_enc _ hlt (encT x.data) k hk
  change ∀ k hk, numAt (workR x).val k = _ at e
  have e6 : rds (workR x).val 6 = (encT x.data, 0) := by
    have := rds_enc _ hlt (encT x.data) 6 (by simp)
    exact this.trans rfl
  have q : workOf (encNs [x.file.toNat]) (workR x).val = x := by
    unfold workOf
    rw [e6, tx1_enc (by omega) (by omega), key_back h.file, e 0 (by simp), e 1 (by simp), e 2 (by simp), e 3 (by simp), e 4 (by simp), e 5 (by simp)]
    have hc2 : ((x.code.toNat : Nat) : Int) = x.code := Int.toNat_of_nonneg hc.1
    simp [h.client.back, h.life.back, h.seq.back, h.off.back, h.len.back, hc2]
  rw [q]

theorem fold_rows {α : Type} (enc : α → Ch) (put : Sta → List α → Sta) (get : ∀ s, put s [] = s) (more : ∀ s a r, put (put s [a]) r = put s (a :: r)) : ∀ (l : List α) (s : Sta), (∀ x ∈ l, ∀ t, oneL t (enc x) = put t [x]) → (l.map enc).foldl oneL s = put s l
  | [], s, _ => by simp [get]
  | a :: r, s, h => by
    simp only [List.map_cons, List.foldl_cons]
    rw [h a (by simp), fold_rows enc put get more r _ (fun x hx => h x (by simp [hx])), more]
theorem fold_back {s : Sta} (hf : s.Fit) (hr : RightS s) : (rowsL s).foldl oneL baseS = s := by
  unfold rowsL
  simp only [List.foldl_append, List.foldl_cons, List.foldl_nil]
  rw [boot_back _ hf.boot, next_back _ hf.next]
  rw [fold_rows lockR (fun s l => { s with locks := s.locks ++ l }) (by intro s; simp) (by intro s a r; simp) s.locks _ (fun x hx t => lock_back t (hf.locks x hx) (hr.locks.each x hx).1)]
  rw [fold_rows nodeR (fun s l => { s with tree := s.tree ++ l }) (by intro s; simp) (by intro s a r; simp) s.tree.tail _ (fun x hx t => node_back t (hf.tree x (List.mem_of_mem_tail hx)) (nm_len (hr.tree.tree.name x hx)))]
  rw [fold_rows openR (fun s l => { s with opens := s.opens ++ l }) (by intro s; simp) (by intro s a r; simp) s.opens _ (fun x hx t => open_back t (hf.opens x hx))]
  rw [fold_rows seatR (fun s l => { s with seats := s.seats ++ l }) (by intro s; simp) (by intro s a r; simp) s.seats _ (fun x hx t => seat_back t (hf.seats x hx) (hr.seats.each x hx).right)]
  rw [fold_rows workR (fun s l => { s with works := s.works ++ l }) (by intro s; simp) (by intro s a r; simp) s.works _ (fun x hx t => work_back t (hf.works x hx) (hr.works.each x hx).2)]
  have ht := hr.tree.tree.cons
  simp only [baseS, List.nil_append]
  cases s
  simp only [Sta.mk.injEq, true_and, and_true]
  simp only at ht
  rw [ht]
  rfl
theorem known_rows (s : Sta) : ∀ c ∈ rowsL s, knownB c = true := by
  intro c hc
  unfold rowsL at hc
  simp only [List.mem_append, List.mem_cons, List.not_mem_nil, or_false, List.mem_map] at hc
  rcases hc with ((((( rfl | rfl) | ⟨x, _, rfl⟩) | ⟨x, _, rfl⟩) | ⟨x, _, rfl⟩) | ⟨x, _, rfl⟩) | ⟨x, _, rfl⟩ <;> rfl

/-- What Read makes of rows: nothing, or a state. -/
def Reads (l : List Ch) (o : Option Sta) : Prop :=
  (l = [] ∧ o = some freshS) ∨ (l ≠ [] ∧ (∀ c ∈ l, knownB c = true) ∧ RightS (l.foldl oneL baseS) ∧ rowsL (l.foldl oneL baseS) = l ∧ o = some (l.foldl oneL baseS)) ∨
    (l ≠ [] ∧ ¬ ((∀ c ∈ l, knownB c = true) ∧ RightS (l.foldl oneL baseS) ∧ rowsL (l.foldl oneL baseS) = l) ∧ o = none)
theorem reads_back {s : Sta} (hf : s.Fit) (hr : RightS s) {o : Option Sta} (h : Reads (rowsL s) o) : o = some s := by
  have hb := fold_back hf hr
  rcases h with ⟨h, _⟩ | ⟨_, _, _, _, h⟩ | ⟨_, h, _⟩
  · simp [rowsL] at h
  · rw [h, hb]
  · rw [hb] at h
    exact absurd ⟨known_rows s, hr, rfl⟩ h
theorem rows_inj {s t : Sta} (hf : s.Fit) (hr : RightS s) (kf : t.Fit) (kr : RightS t) (h : rowsL s = rowsL t) : s = t := by
  rw [← fold_back hf hr, ← fold_back kf kr, h]

/-! How many. -/
theorem few_of_range : ∀ (l : List Int) (lo hi : Int), l.Pairwise (· < ·) → (∀ x ∈ l, lo ≤ x ∧ x ≤ hi) → (l.length : Int) ≤ (hi - lo + 1).toNat
  | [], _, _, _, _ => by simp only [List.length_nil]; omega
  | a :: r, lo, hi, hp, hb => by
    rw [List.pairwise_cons] at hp
    have ha := hb a (by simp)
    have := few_of_range r (a + 1) hi hp.2 (fun x hx => ⟨by have := hp.1 x hx; omega, (hb x (by simp [hx])).2⟩)
    simp only [List.length_cons]
    omega
theorem few_of_sub : ∀ (m l : List Int), m.Pairwise (· < ·) → l.Pairwise (· < ·) → (∀ x ∈ l, x ∈ m) → l.length ≤ m.length
  | [], l, _, _, h => by
    cases l with
    | nil => simp
    | cons a r => exact absurd (h a (by simp)) (by simp)
  | b :: m, [], _, _, _ => by simp
  | b :: m, a :: l, hm, hl, h => by
    rw [List.pairwise_cons] at hm hl
    have key : ∀ x ∈ l, x ∈ m := by
      intro x hx
      rcases List.mem_cons.1 (h x (by simp [hx])) with rfl | hx'
      · exfalso
        have h1 := hl.1 x hx
        rcases List.mem_cons.1 (h a (by simp)) with rfl | ha
        · omega
        · have := hm.1 a ha; omega
      · exact hx'
    have := few_of_sub m l hm.2 hl.2 key
    simp only [List.length_cons]
    omega
theorem works_few {s : Sta} (hr : RightS s) : s.works.length ≤ 40 := by
  have h1 := few_of_sub (s.tree.map (·.id)) (s.works.map (·.file)) (by rw [List.pairwise_map]; exact hr.tree.tree.rise) (by rw [List.pairwise_map]; exact hr.works.rise) ?_
  · have := hr.tree.tree.len
    simp only [List.length_map] at h1
    omega
  · intro x hx
    obtain ⟨w, hw, rfl⟩ := List.mem_map.1 hx
    have := (hr.works.each w hw).1
    unfold isFileL at this
    obtain ⟨n, hn, e⟩ := List.any_eq_true.1 this
    simp only [Bool.and_eq_true, beq_iff_eq] at e
    exact List.mem_map.2 ⟨n, hn, e.1⟩
theorem cliB_iff {n : Int} : cliB n = true ↔ 17 ≤ n ∧ n < 21 := by simp [cliB]
theorem seats_few {s : Sta} (hr : RightS s) : s.seats.length ≤ 4 := by
  have h1 := few_of_range (s.seats.map (·.client)) 17 20 (by rw [List.pairwise_map]; exact hr.seats.rise) ?_
  · simp only [List.length_map] at h1
    omega
  · intro x hx
    obtain ⟨h, hh, rfl⟩ := List.mem_map.1 hx
    have := cliB_iff.1 (hr.seats.each h hh).client
    omega
theorem rows_length (s : Sta) : (rowsL s).length = 2 + s.locks.length + s.tree.tail.length + s.opens.length + s.seats.length + s.works.length := by
  unfold rowsL
  simp only [List.length_append, List.length_cons, List.length_nil, List.length_map]
theorem rows_few {s : Sta} (hr : RightS s) : (rowsL s).length ≤ 160 := by
  have h1 := works_few hr
  have h2 := seats_few hr
  have h3 := hr.tree.tree.len
  have h4 := hr.locks.len
  have h5 := hr.opens.right.len
  rw [rows_length, List.length_tail]
  omega

end Go.Proofs.YtalkhhjfplahkaaGreat
