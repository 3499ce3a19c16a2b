/- Paths and walking, in plain words. -/
import Derived.Test.YteiekfccfddmjaaDoorRef10
namespace Go.Proofs.YteiekfccfddmjaaDoor

/-- A text cut at each '/'. -/
def segs : List UInt8 → List (List UInt8)
  | [] => [[]]
  | c :: r => if c = 47 then [] :: segs r else match segs r with
    | h :: t => (c :: h) :: t
    | [] => [[c]]
theorem segs_ne (s : List UInt8) : segs s ≠ [] := by
  cases s with
  | nil => simp [segs]
  | cons c r =>
    simp only [segs]
    split
    · simp
    · split <;> simp
def notS (c : UInt8) : Bool := !(c == 47)
/-- The first piece, and what is behind it. -/
theorem segs_take : ∀ r : List UInt8, segs r = r.takeWhile notS :: (segs (r.dropWhile notS)).drop 1
  | [] => by simp [segs]
  | c :: r => by
    by_cases h : c = 47
    · subst h
      simp [segs, notS]
    · have ih := segs_take r
      have hn : notS c = true := by simp [notS, h]
      simp only [segs, h, if_false, List.takeWhile_cons, hn, if_true, List.dropWhile_cons]
      rw [ih]
/-- A path's names. -/
def splitL (p : List UInt8) : Option (List (List UInt8)) :=
  if p = [47] then some [] else match segs p with
    | h :: t => if h = [] ∧ 1 ≤ t.length ∧ t.length ≤ 6 ∧ t.all nmB = true then some t else none
    | [] => none
theorem splitL_of {p h : List UInt8} {t : List (List UInt8)} (h1 : p ≠ [47]) (e : segs p = h :: t) : splitL p = if h = [] ∧ 1 ≤ t.length ∧ t.length ≤ 6 ∧ t.all nmB = true then some t else none := by
  rw [splitL, if_neg h1, e]
theorem splitL_root : splitL [47] = some [] := by simp [splitL]
theorem splitL_le {p : List UInt8} {t : List (List UInt8)} (h : splitL p = some t) : t.length ≤ 6 := by
  unfold splitL at h
  split at h
  · injection h with h; subst h; simp
  · split at h
    · split at h
      · rename_i hh; injection h with h; subst h; exact hh.2.2.1
      · cases h
    · cases h
theorem splitL_names {p : List UInt8} {t : List (List UInt8)} (h : splitL p = some t) : ∀ s ∈ t, nmB s = true := by
  unfold splitL at h
  split at h
  · injection h with h; subst h; simp
  · split at h
    · split at h
      · rename_i hh; injection h with h; subst h; exact List.all_eq_true.1 hh.2.2.2
      · cases h
    · cases h

theorem tw_all : ∀ {s : List UInt8}, s.all notS = true → s.takeWhile notS = s ∧ s.dropWhile notS = []
  | [], _ => ⟨rfl, rfl⟩
  | c :: r, h => by
    simp only [List.all_cons, Bool.and_eq_true] at h
    obtain ⟨h1, h2⟩ := tw_all h.2
    simp [h.1, h1, h2]
theorem tw_some : ∀ {s : List UInt8}, s.all notS = false → ∃ q, s.dropWhile notS = 47 :: q
  | [], h => by cases h
  | c :: r, h => by
    simp only [List.all_cons, Bool.and_eq_false_iff] at h
    by_cases hc : notS c = true
    · rw [hc] at h
      obtain ⟨q, hq⟩ := tw_some (s := r) (h.resolve_left (by simp))
      exact ⟨q, by simp [hc, hq]⟩
    · have : c = 47 := by simpa [notS] using hc
      subst this
      exact ⟨r, by simp [notS]⟩
/-- Cut at most so often. -/
def segsN : Nat → List UInt8 → List (List UInt8)
  | 0, s => [s]
  | k + 1, s => if s.all notS then [s] else s.takeWhile notS :: segsN k ((s.dropWhile notS).drop 1)
theorem segs_all {s : List UInt8} (h : s.all notS = true) : segs s = [s] := by
  obtain ⟨h1, h2⟩ := tw_all h
  rw [segs_take, h1, h2]
  rfl
theorem segs_more {s : List UInt8} (h : s.all notS = false) : segs s = s.takeWhile notS :: segs ((s.dropWhile notS).drop 1) := by
  obtain ⟨q, hq⟩ := tw_some h
  rw [segs_take, hq]
  simp [segs]
theorem segsN_few : ∀ (k : Nat) (s : List UInt8), (segs s).length ≤ k + 1 → segsN k s = segs s
  | 0, s, h => by
    cases ha : s.all notS with
    | true => rw [segs_all ha]; rfl
    | false =>
      rw [segs_more ha, List.length_cons] at h
      have := List.length_pos_iff.2 (segs_ne ((s.dropWhile notS).drop 1))
      omega
  | k + 1, s, h => by
    cases ha : s.all notS with
    | true => rw [segs_all ha, segsN, ha]; rfl
    | false =>
      rw [segs_more ha, List.length_cons] at h
      rw [segs_more ha, segsN, ha, segsN_few k _ (by omega)]
      rfl
theorem segsN_many : ∀ (k : Nat) (s : List UInt8), k + 1 < (segs s).length → (segsN k s).length = k + 1
  | 0, s, h => rfl
  | k + 1, s, h => by
    cases ha : s.all notS with
    | true => rw [segs_all ha] at h; simp at h
    | false =>
      rw [segs_more ha, List.length_cons] at h
      have ih := segsN_many k ((s.dropWhile notS).drop 1) (by omega)
      rw [segsN, ha]
      simp only [Bool.false_eq_true, if_false, List.length_cons, ih]
/-- The program's way: at most eight pieces are looked at. -/
theorem splitL_prog {p : List UInt8} (h1 : p ≠ [47]) {h : List UInt8} {t : List (List UInt8)} (e : segsN 7 p = h :: t) : splitL p = if h = [] ∧ 1 ≤ t.length ∧ t.length ≤ 6 ∧ t.all nmB = true then some t else none := by
  by_cases hs : (segs p).length ≤ 8
  · rw [segsN_few 7 p hs] at e
    exact splitL_of h1 e
  · have hl := segsN_many 7 p (by omega)
    rw [e, List.length_cons] at hl
    rw [if_neg (fun hh => by omega)]
    cases hq : segs p with
    | nil => exact absurd hq (segs_ne p)
    | cons h' t' =>
      rw [splitL_of h1 hq, if_neg]
      intro hh
      rw [hq, List.length_cons] at hs
      omega

/-- Walking: where one comes, and the error's number. -/
def walkR (t : List Nd) : Nd → List (List UInt8) → Nd × Int
  | x, [] => (x, 0)
  | x, s :: r => if x.dir then match kidN t x.id s with
    | some y => walkR t y r
    | none => (zeroN, 7)
    else (zeroN, 10)
/-- The document's, by places. -/
def walkI (t : List Nd) : Nat → List (List UInt8) → Nat × Int
  | k, [] => (k, 0)
  | k, s :: r => match t[k]? with
    | some x => if x.dir then match kidX t x.id s with
      | some m => walkI t m r
      | none => (0, 7)
      else (0, 10)
    | none => (0, 0)
section
variable {t : List Nd}
theorem kidX_get {d : Int} {s : List UInt8} (h0 : ∀ x, t.head? = some x → x.par ≠ d) : (kidX t d s).bind (fun k => t[k]?) = kidN t d s := by
  cases h : kidX t d s with
  | none =>
    have h1 := kidX_none h
    rw [kidN_none_of]
    · rfl
    · intro x hx e
      cases t with
      | nil => cases hx
      | cons a r =>
        rcases List.mem_cons.1 hx with rfl | hx
        · exact h0 x rfl e.1
        · exact h1 x hx e
  | some k =>
    unfold kidX at h
    obtain ⟨j, hj, rfl⟩ := Option.map_eq_some_iff.1 h
    rw [List.findIdx?_eq_some_iff_getElem] at hj
    obtain ⟨q1, q2, q3⟩ := hj
    simp only [Option.bind_some]
    have e1 : t[j + 1]? = some t.tail[j] := by rw [← List.getElem?_tail]; exact List.getElem?_eq_getElem q1
    rw [e1]
    symm
    cases t with
    | nil => simp at q1
    | cons a r =>
      simp only [List.tail_cons] at q1 q2 q3 ⊢
      have ha : (a.par == d && a.name == s) = false := by
        have := h0 a rfl
        simp [this]
      unfold kidN
      rw [List.find?_cons, ha]
      rw [List.find?_eq_some_iff_getElem]
      exact ⟨q2, j, q1, rfl, fun i hi => by have := q3 i hi; cases hb : (r[i].par == d && r[i].name == s) <;> simp_all⟩
theorem Tree.kidX_kid (h : Tree t) {d : Int} (hd : 1 ≤ d) (s : List UInt8) : (kidX t d s).bind (fun k => t[k]?) = kidN t d s :=
  kidX_get fun x hx e => by
    rw [h.head] at hx
    injection hx with hx
    rw [← hx] at e
    simp [rootN] at e
    omega
theorem kidX_lt {d : Int} {s : List UInt8} {k : Nat} (h : kidX t d s = some k) : k < t.length := by
  obtain ⟨_, x, hx, _⟩ := kidX_some h
  exact (List.getElem?_eq_some_iff.1 hx).1
theorem walk_same (h : Tree t) : ∀ (names : List (List UInt8)) (k : Nat) (x : Nd), t[k]? = some x → (walkI t k names).2 = (walkR t x names).2 ∧ (walkI t k names).1 < t.length ∧ ((walkR t x names).2 = 0 → t[(walkI t k names).1]? = some (walkR t x names).1) ∧ ((walkR t x names).2 ≠ 0 → (walkR t x names).1 = zeroN)
  | [], k, x, hk => by
    simp only [walkI, walkR]
    exact ⟨by first | rfl | trivial, (List.getElem?_eq_some_iff.1 hk).1, fun _ => hk, fun h => absurd rfl h⟩
  | s :: r, k, x, hk => by
    have hl := (List.getElem?_eq_some_iff.1 hk).1
    have hm := List.mem_of_getElem? hk
    have hx1 := h.pos hm
    have hkk := h.kidX_kid hx1 s
    simp only [walkI, walkR, hk]
    cases hd : x.dir with
    | false => simp; omega
    | true =>
      simp only [if_true]
      cases hi : kidX t x.id s with
      | none =>
        rw [hi] at hkk
        simp only [Option.bind_none] at hkk
        rw [← hkk]
        simp; omega
      | some m =>
        rw [hi] at hkk
        simp only [Option.bind_some] at hkk
        obtain ⟨_, y, hy, _⟩ := kidX_some hi
        rw [hy] at hkk
        rw [← hkk]
        exact walk_same h r m y hy
/-- What one comes to lies in the tree, as deep as there are names. -/
theorem walkR_mem (h : Tree t) : ∀ (names : List (List UInt8)) (x : Nd), x ∈ t → (walkR t x names).2 = 0 → (walkR t x names).1 ∈ t
  | [], x, hx, _ => hx
  | s :: r, x, hx, he => by
    simp only [walkR] at he ⊢
    cases hd : x.dir with
    | false => rw [hd] at he; simp at he
    | true =>
      rw [hd] at he
      simp only [if_true] at he ⊢
      cases hk : kidN t x.id s with
      | none => rw [hk] at he; simp at he
      | some y =>
        rw [hk] at he
        exact walkR_mem h r y (kidN_mem hk).1 he
theorem walkR_err (t : List Nd) : ∀ (names : List (List UInt8)) (x : Nd), (walkR t x names).2 = 0 ∨ (walkR t x names).2 = 7 ∨ (walkR t x names).2 = 10
  | [], x => .inl rfl
  | s :: r, x => by
    simp only [walkR]
    cases x.dir with
    | false => simp
    | true =>
      simp only [if_true]
      cases kidN t x.id s with
      | none => simp
      | some y => exact walkR_err t r y
theorem walkR_app (t : List Nd) : ∀ (a b : List (List UInt8)) (x : Nd), (walkR t x a).2 = 0 → walkR t x (a ++ b) = walkR t (walkR t x a).1 b
  | [], b, x, _ => rfl
  | s :: r, b, x, h => by
    simp only [walkR, List.cons_append] at h ⊢
    cases hd : x.dir with
    | false => rw [hd] at h; simp at h
    | true =>
      rw [hd] at h
      simp only [if_true] at h ⊢
      cases hk : kidN t x.id s with
      | none => rw [hk] at h; simp at h
      | some y =>
        rw [hk] at h
        exact walkR_app t r b y h
end
/-- The directory of a path's last name, that name, the error's number. -/
def spotR (t : List Nd) (names : List (List UInt8)) : Nd × List UInt8 × Int :=
  match names.getLast? with
  | none => (zeroN, [], 8)
  | some s => if (walkR t rootN names.dropLast).2 = 0 then (if (walkR t rootN names.dropLast).1.dir then ((walkR t rootN names.dropLast).1, s, 0) else (zeroN, [], 10)) else (zeroN, [], (walkR t rootN names.dropLast).2)
end Go.Proofs.YteiekfccfddmjaaDoor
