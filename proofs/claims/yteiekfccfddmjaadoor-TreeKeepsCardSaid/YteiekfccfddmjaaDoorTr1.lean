/- Trees, in plain words: what a name, a path, a tree is; who lies how deep; no program. -/
import Derived.Test.YteiekfccfddmjaaDoorApp
namespace Go.Proofs.YteiekfccfddmjaaDoor

/-- An inode. -/
structure Nd where
  id : Int
  par : Int
  name : List UInt8
  dir : Bool
  size : Int

theorem nd_ext {x y : Nd} (h1 : x.id = y.id) (h2 : x.par = y.par) (h3 : x.name = y.name) (h4 : x.dir = y.dir) (h5 : x.size = y.size) : x = y := by
  cases x; cases y; simp_all
instance : DecidableEq Nd := fun x y =>
  if h : x.id = y.id ∧ x.par = y.par ∧ x.name = y.name ∧ x.dir = y.dir ∧ x.size = y.size then
    isTrue (nd_ext h.1 h.2.1 h.2.2.1 h.2.2.2.1 h.2.2.2.2)
  else isFalse fun e => h (by subst e; exact ⟨rfl, rfl, rfl, rfl, rfl⟩)

def rootN : Nd := ⟨1, 0, [], true, 0⟩
def zeroN : Nd := ⟨0, 0, [], false, 0⟩
def getI (t : List Nd) (i : Int) : Option Nd := t.find? (fun x => x.id == i)
def kidN (t : List Nd) (d : Int) (s : List UInt8) : Option Nd := t.find? (fun x => x.par == d && x.name == s)
def kidsN (t : List Nd) (d : Int) : Nat := t.countP (fun x => x.par == d)
def okC (c : UInt8) : Bool := (decide (97 ≤ c.toNat) && decide (c.toNat ≤ 122)) || (decide (48 ≤ c.toNat) && decide (c.toNat ≤ 57)) || c.toNat == 46 || c.toNat == 95 || c.toNat == 45
def nmB (s : List UInt8) : Bool := decide (1 ≤ s.length) && decide (s.length ≤ 8) && !(s == [46]) && !(s == [46, 46]) && s.all okC
def szB (x : Nd) : Bool := if x.dir then x.size == 0 else decide (x.size ≤ 1024)
def parF (t : List Nd) (i : Int) : Option Int := (getI t i).map (·.par)

/-- k steps up. -/
def up (f : Int → Option Int) : Nat → Int → Option Int
  | 0, i => some i
  | k + 1, i => (f i).bind (up f k)

/-- The program's depth: how many steps through directories to the root, at most so many. -/
def dpP (t : List Nd) : Nat → Nd → Option Nat
  | 0, x => if x.id = 1 then some 0 else none
  | f + 1, x => if x.id = 1 then some 0 else match getI t x.par with
    | some p => if p.dir then (dpP t f p).map (· + 1) else none
    | none => none
/-- The document's depth. -/
def dpR (t : List Nd) : Nat → Nd → Option Nat
  | 0, x => if x.id = 1 then some 0 else none
  | f + 1, x => if x.id = 1 then some 0 else match getI t x.par with
    | some p => (dpR t f p).map (· + 1)
    | none => none

/-- What a tree is. -/
structure Tree (t : List Nd) : Prop where
  head : t.head? = some rootN
  len : t.length ≤ 40
  rise : t.Pairwise (fun a b => a.id < b.id)
  name : ∀ n ∈ t.tail, nmB n.name = true
  size : ∀ n ∈ t.tail, szB n = true
  dirs : ∀ n ∈ t.tail, ∃ p, getI t n.par = some p ∧ p.dir = true
  deep : ∀ n ∈ t, ∃ k, k ≤ 6 ∧ up (parF t) k n.id = some 1
  uniq : t.tail.Pairwise (fun a b => ¬ (a.par = b.par ∧ a.name = b.name))
  kids : ∀ n ∈ t.tail, kidsN t n.par ≤ 12

/-! Up. -/
section
variable {f : Int → Option Int}
theorem up_one (i : Int) : up f 1 i = f i := by
  simp only [up]
  cases f i <;> rfl
theorem up_add : ∀ (a b : Nat) (i : Int), up f (a + b) i = (up f a i).bind (up f b)
  | 0, b, i => by simp [up]
  | a + 1, b, i => by
    rw [show a + 1 + b = (a + b) + 1 by omega]
    simp only [up]
    cases f i with
    | none => rfl
    | some j => simp only [Option.bind_some]; exact up_add a b j
theorem up_snoc (a : Nat) (i : Int) : up f (a + 1) i = (up f a i).bind f := by
  rw [up_add]
  congr 1
  exact funext fun j => up_one j
theorem up_zero (h0 : f 0 = none) (k : Nat) (h : up f k 0 = some 1) : False := by
  cases k with
  | zero => simp [up] at h
  | succ k => simp [up, h0] at h
theorem up_past (h1 : f 1 = some 0) (h0 : f 0 = none) {i : Int} {a : Nat} (h : up f a i = some 1) (b : Nat) (hb : 0 < b) : up f (a + b) i ≠ some 1 := by
  intro h2
  rw [up_add, h] at h2
  obtain ⟨c, rfl⟩ : ∃ c, b = c + 1 := ⟨b - 1, by omega⟩
  simp only [Option.bind_some, up, h1] at h2
  exact up_zero h0 c h2
/-- How deep one lies is one number. -/
theorem up_uniq (h1 : f 1 = some 0) (h0 : f 0 = none) {i : Int} {a b : Nat} (ha : up f a i = some 1) (hb : up f b i = some 1) : a = b := by
  rcases Nat.lt_trichotomy a b with h | h | h
  · exact absurd (by rw [show a + (b - a) = b by omega]; exact hb) (up_past h1 h0 ha (b - a) (by omega))
  · exact h
  · exact absurd (by rw [show b + (a - b) = a by omega]; exact ha) (up_past h1 h0 hb (a - b) (by omega))
/-- From one inside another one: the depths' difference. -/
theorem up_split (h1 : f 1 = some 0) (h0 : f 0 = none) {i n : Int} {a j : Nat} (ha : up f a i = some 1) (hj : up f j i = some n) (hn : n ≠ 0) : j ≤ a ∧ up f (a - j) n = some 1 := by
  have hle : j ≤ a := by
    apply Decidable.byContradiction
    intro h
    have : up f (a + (j - a)) i = some n := by rw [show a + (j - a) = j by omega]; exact hj
    rw [up_add, ha] at this
    obtain ⟨c, hc⟩ : ∃ c, j - a = c + 1 := ⟨j - a - 1, by omega⟩
    rw [hc] at this
    simp only [Option.bind_some, up, h1] at this
    cases c with
    | zero => simp [up] at this; exact hn this.symm
    | succ c => simp [up, h0] at this
  refine ⟨hle, ?_⟩
  have : up f (j + (a - j)) i = some 1 := by rw [show j + (a - j) = a by omega]; exact ha
  rw [up_add, hj] at this
  simpa using this

/-- n's parent is another one now. -/
def upd (f : Int → Option Int) (n : Int) (v : Int) : Int → Option Int := fun i => if i = n then some v else f i
theorem upd_self (n v : Int) : upd f n v n = some v := by simp [upd]
theorem upd_other {n v i : Int} (h : i ≠ n) : upd f n v i = f i := by simp [upd, h]
theorem upd_upd (n v u : Int) : upd (upd f n v) n u = upd f n u := by
  funext i
  by_cases h : i = n <;> simp [upd, h]
theorem upd_back {n v : Int} (h : f n = some v) : upd f n v = f := by
  funext i
  by_cases e : i = n
  · simp [upd, e, h]
  · simp [upd, e]
/-- Outside nothing turns. -/
theorem upd_out {n v : Int} : ∀ (k : Nat) (i : Int), (∀ j, j < k → up f j i ≠ some n) → up (upd f n v) k i = up f k i
  | 0, i, _ => rfl
  | k + 1, i, h => by
    have hi : i ≠ n := fun e => h 0 (by omega) (by simp [up, e])
    simp only [up, upd_other hi]
    cases hf : f i with
    | none => rfl
    | some j =>
      simp only [Option.bind_some]
      exact upd_out k j fun m hm => by
        have := h (m + 1) (by omega)
        simpa [up, hf] using this
end

/-! Lists whose Ids rise. -/
section
variable {t : List Nd}
theorem getI_mem {i : Int} {x : Nd} (h : getI t i = some x) : x ∈ t ∧ x.id = i := by
  refine ⟨List.mem_of_find?_eq_some h, ?_⟩
  have := List.find?_some h
  simpa using this
theorem getI_none {i : Int} (h : getI t i = none) : ∀ x ∈ t, x.id ≠ i := by
  intro x hx e
  have := List.find?_eq_none.1 h x hx
  simp [e] at this
theorem getI_none_of {i : Int} (h : ∀ x ∈ t, x.id ≠ i) : getI t i = none := by
  rw [getI, List.find?_eq_none]
  intro x hx
  simp [h x hx]
theorem rise_inj (hr : t.Pairwise (fun a b => a.id < b.id)) {x y : Nd} (hx : x ∈ t) (hy : y ∈ t) (e : x.id = y.id) : x = y := by
  induction t with
  | nil => cases hx
  | cons a r ih =>
    rw [List.pairwise_cons] at hr
    simp only [List.mem_cons] at hx hy
    rcases hx with rfl | hx
    · rcases hy with rfl | hy
      · rfl
      · have := hr.1 y hy; omega
    · rcases hy with rfl | hy
      · have := hr.1 x hx; omega
      · exact ih hr.2 hx hy
theorem getI_of (hr : t.Pairwise (fun a b => a.id < b.id)) {x : Nd} (hx : x ∈ t) : getI t x.id = some x := by
  cases h : getI t x.id with
  | none => exact absurd rfl (getI_none h x hx)
  | some y =>
    obtain ⟨h1, h2⟩ := getI_mem h
    rw [rise_inj hr h1 hx h2]
theorem getI_iff (hr : t.Pairwise (fun a b => a.id < b.id)) {i : Int} {x : Nd} : getI t i = some x ↔ x ∈ t ∧ x.id = i :=
  ⟨getI_mem, fun ⟨h1, h2⟩ => by rw [← h2]; exact getI_of hr h1⟩
theorem kidN_mem {d : Int} {s : List UInt8} {x : Nd} (h : kidN t d s = some x) : x ∈ t ∧ x.par = d ∧ x.name = s := by
  refine ⟨List.mem_of_find?_eq_some h, ?_⟩
  have := List.find?_some h
  simpa using this
theorem kidN_none {d : Int} {s : List UInt8} (h : kidN t d s = none) : ∀ x ∈ t, ¬ (x.par = d ∧ x.name = s) := by
  intro x hx e
  have := List.find?_eq_none.1 h x hx
  simp [e] at this
theorem kidN_none_of {d : Int} {s : List UInt8} (h : ∀ x ∈ t, ¬ (x.par = d ∧ x.name = s)) : kidN t d s = none := by
  rw [kidN, List.find?_eq_none]
  intro x hx
  have := h x hx
  simpa using this
end

/-! Trees. -/
section
variable {t : List Nd}
theorem Tree.cons (h : Tree t) : t = rootN :: t.tail := by
  have := h.head
  cases t with
  | nil => simp at this
  | cons a r => simp at this; simp [this]
theorem Tree.root_mem (h : Tree t) : rootN ∈ t := by rw [h.cons]; simp
theorem Tree.mem (h : Tree t) {x : Nd} (hx : x ∈ t) : x = rootN ∨ x ∈ t.tail := by
  rw [h.cons] at hx
  simpa using hx
theorem Tree.above (h : Tree t) {x : Nd} (hx : x ∈ t.tail) : 1 < x.id := by
  have := h.rise
  rw [h.cons, List.pairwise_cons] at this
  exact this.1 x hx
theorem Tree.pos (h : Tree t) {x : Nd} (hx : x ∈ t) : 1 ≤ x.id := by
  rcases h.mem hx with rfl | hx
  · decide
  · have := h.above hx; omega
theorem Tree.tail_of (h : Tree t) {x : Nd} (hx : x ∈ t) (h1 : x.id ≠ 1) : x ∈ t.tail := by
  rcases h.mem hx with rfl | hx
  · exact absurd rfl h1
  · exact hx
theorem Tree.root_of (h : Tree t) {x : Nd} (hx : x ∈ t) (h1 : x.id = 1) : x = rootN := by
  rcases h.mem hx with rfl | hx
  · rfl
  · have := h.above hx; omega
theorem Tree.get (h : Tree t) {x : Nd} (hx : x ∈ t) : getI t x.id = some x := getI_of h.rise hx
theorem Tree.get1 (h : Tree t) : getI t 1 = some rootN := h.get h.root_mem
theorem Tree.par1 (h : Tree t) : parF t 1 = some 0 := by rw [parF, h.get1]; rfl
theorem Tree.par0 (h : Tree t) : parF t 0 = none := by
  rw [parF, getI_none_of (fun x hx e => by have := h.pos hx; omega)]
  rfl
theorem Tree.parF_of (h : Tree t) {x : Nd} (hx : x ∈ t) : parF t x.id = some x.par := by rw [parF, h.get hx]; rfl
theorem Tree.par_pos (h : Tree t) {x : Nd} (hx : x ∈ t.tail) : 1 ≤ x.par := by
  obtain ⟨p, hp, _⟩ := h.dirs x hx
  obtain ⟨h1, h2⟩ := getI_mem hp
  have := h.pos h1
  omega
theorem Tree.name_ne (h : Tree t) {x : Nd} (hx : x ∈ t.tail) : x.name ≠ [] := by
  intro e
  have := h.name x hx
  rw [e] at this
  revert this
  decide
theorem pair_inj {l : List Nd} (hp : l.Pairwise (fun a b => ¬ (a.par = b.par ∧ a.name = b.name))) {x y : Nd} (hx : x ∈ l) (hy : y ∈ l) (e1 : x.par = y.par) (e2 : x.name = y.name) : x = y := by
  induction l with
  | nil => cases hx
  | cons a r ih =>
    rw [List.pairwise_cons] at hp
    simp only [List.mem_cons] at hx hy
    rcases hx with rfl | hx
    · rcases hy with rfl | hy
      · rfl
      · exact absurd ⟨e1, e2⟩ (hp.1 y hy)
    · rcases hy with rfl | hy
      · exact absurd ⟨e1.symm, e2.symm⟩ (hp.1 x hx)
      · exact ih hp.2 hx hy
theorem Tree.kid_iff (h : Tree t) {d : Int} (hd : 1 ≤ d) {s : List UInt8} {x : Nd} : kidN t d s = some x ↔ x ∈ t ∧ x.par = d ∧ x.name = s := by
  refine ⟨kidN_mem, fun ⟨h1, h2, h3⟩ => ?_⟩
  cases hk : kidN t d s with
  | none => exact absurd ⟨h2, h3⟩ (kidN_none hk x h1)
  | some y =>
    obtain ⟨k1, k2, k3⟩ := kidN_mem hk
    have hx : x ∈ t.tail := by
      rcases h.mem h1 with rfl | hx
      · simp [rootN] at h2; omega
      · exact hx
    have hy : y ∈ t.tail := by
      rcases h.mem k1 with rfl | hy
      · simp [rootN] at k2; omega
      · exact hy
    rw [pair_inj h.uniq hx hy (by rw [h2, k2]) (by rw [h3, k3])]
theorem Tree.depth (h : Tree t) {x : Nd} (hx : x ∈ t) : ∃ k, k ≤ 6 ∧ up (parF t) k x.id = some 1 := h.deep x hx
theorem Tree.up_mem (h : Tree t) : ∀ (k : Nat) {i j : Int}, (∃ x ∈ t, x.id = i) → up (parF t) k i = some j → j = 0 ∨ ∃ y ∈ t, y.id = j
  | 0, i, j, hi, e => by simp [up] at e; exact .inr (by rw [← e]; exact hi)
  | k + 1, i, j, ⟨x, hx, hxi⟩, e => by
    rw [← hxi] at e
    simp only [up, h.parF_of hx, Option.bind_some] at e
    rcases h.mem hx with rfl | hxt
    · cases k with
      | zero => simp [up, rootN] at e; exact .inl e.symm
      | succ k => simp [up, rootN, h.par0] at e
    · obtain ⟨p, hp, _⟩ := h.dirs x hxt
      obtain ⟨h1, h2⟩ := getI_mem hp
      exact h.up_mem k ⟨p, h1, h2⟩ e
end

/-- Does one lie inside another one, or is it that one? -/
def Ins (t : List Nd) (n i : Int) : Prop := ∃ k, up (parF t) k i = some n

end Go.Proofs.YteiekfccfddmjaaDoor
