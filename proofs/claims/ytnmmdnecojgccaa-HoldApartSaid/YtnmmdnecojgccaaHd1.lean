/- Locks, of no memory: whether they may be; what an ask, a return, a turn, a settling, a shrinking make of them. -/
import Derived.Lib.Hide
namespace Go.Proofs.Ytnmmdnecojgccaa

/-- A holder. -/
structure Hol where
  client : Int
  mode : Int
deriving DecidableEq
def zeroH : Hol := ⟨0, 0⟩
/-- A lock. -/
structure Lk where
  file : Int
  epoch : Int
  used : Int
  cut : Int
  fenced : Bool
  gone : Bool
  hs : List Hol
deriving DecidableEq
def noL : Lk := ⟨0, 0, 0, 0, false, false, []⟩

theorem get_snoc {α : Type} {l : List α} {n : Nat} {x : α} (h : l[n]? = some x) : l.take (n + 1) = l.take n ++ [x] := by
  rw [List.take_add_one, h]; rfl

def cliLt (a b : Hol) : Prop := a.client < b.client
instance (a b : Hol) : Decidable (cliLt a b) := by unfold cliLt; exact inferInstance
def okH (u : Int) (n : Nat) (h : Hol) : Prop := (h.mode = 1 ∨ h.mode = 2) ∧ h.mode ≤ u ∧ ¬ (h.mode = 2 ∧ n ≠ 1)
instance (u : Int) (n : Nat) (h : Hol) : Decidable (okH u n h) := by unfold okH; exact inferInstance

/-- Whether a lock may be. -/
structure RightP (l : Lk) : Prop where
  used : l.used ≤ 2
  cut : l.cut ≤ 1024
  len : l.hs.length ≤ 4
  may : 0 < l.hs.length → l.fenced = true ∧ l.gone = false
  ok : ∀ h ∈ l.hs, okH l.used l.hs.length h
  rise : l.hs.Pairwise cliLt
instance (l : Lk) : Decidable (RightP l) :=
  decidable_of_iff (l.used ≤ 2 ∧ l.cut ≤ 1024 ∧ l.hs.length ≤ 4 ∧ (0 < l.hs.length → l.fenced = true ∧ l.gone = false) ∧ (∀ h ∈ l.hs, okH l.used l.hs.length h) ∧ l.hs.Pairwise cliLt)
    ⟨fun h => ⟨h.1, h.2.1, h.2.2.1, h.2.2.2.1, h.2.2.2.2.1, h.2.2.2.2.2⟩, fun h => ⟨h.used, h.cut, h.len, h.may, h.ok, h.rise⟩⟩

/-! Where a client is. -/
def isC (c : Int) (x : Hol) : Bool := decide (x.client = c)
def findC (l : List Hol) (c : Int) : Option Hol := l.find? (isC c)
theorem findC_some {l : List Hol} {c : Int} {x : Hol} (e : findC l c = some x) : x ∈ l ∧ x.client = c := ⟨List.mem_of_find?_eq_some e, by simpa [isC] using List.find?_some e⟩
theorem findC_none {l : List Hol} {c : Int} (e : findC l c = none) : ∀ x ∈ l, ¬ x.client = c := fun x hx k => (List.find?_eq_none.1 e x hx) (by simp [isC, k])
theorem findC_none_of {l : List Hol} {c : Int} (e : ∀ x ∈ l, ¬ x.client = c) : findC l c = none := List.find?_eq_none.2 fun x hx k => e x hx (by simpa [isC] using k)
theorem cli_inj {l : List Hol} (h : l.Pairwise cliLt) {x y : Hol} (hx : x ∈ l) (hy : y ∈ l) (e : x.client = y.client) : x = y := by
  obtain ⟨i, hi, rfl⟩ := List.getElem_of_mem hx
  obtain ⟨j, hj, rfl⟩ := List.getElem_of_mem hy
  rw [List.pairwise_iff_getElem] at h
  rcases Nat.lt_trichotomy i j with a | a | a
  · have := h i j hi hj a
    unfold cliLt at this
    omega
  · subst a; rfl
  · have := h j i hj hi a
    unfold cliLt at this
    omega
theorem findC_mem {l : List Hol} (h : l.Pairwise cliLt) {x : Hol} (hx : x ∈ l) : findC l x.client = some x := by
  cases e : findC l x.client with
  | none => exact absurd rfl (findC_none e x hx)
  | some y =>
    obtain ⟨h1, h2⟩ := findC_some e
    rw [cli_inj h h1 hx h2]
/-- A client's mode. -/
def modeH (l : List Hol) (c : Int) : Int := ((findC l c).map (·.mode)).getD 0
theorem modeH_some {l : List Hol} {c : Int} {x : Hol} (e : findC l c = some x) : modeH l c = x.mode := by simp [modeH, e]
theorem modeH_none {l : List Hol} {c : Int} (e : findC l c = none) : modeH l c = 0 := by simp [modeH, e]

/-- What lies ahead of a client. -/
def posC (l : List Hol) (c : Int) : Nat := l.countP (fun x => decide (x.client < c))
theorem posC_le (l : List Hol) (c : Int) : posC l c ≤ l.length := List.countP_le_length
theorem posC_iff {l : List Hol} (h : l.Pairwise cliLt) {c : Int} : ∀ {j : Nat} {x : Hol}, l[j]? = some x → (x.client < c ↔ j < posC l c) := by
  induction l with
  | nil => intro j x hx; simp at hx
  | cons a r ih =>
    rw [List.pairwise_cons] at h
    intro j x hx
    unfold posC
    rw [List.countP_cons]
    have hz : ¬ a.client < c → r.countP (fun x => decide (x.client < c)) = 0 := fun e => by
      rw [List.countP_eq_zero]
      intro y hy
      have := h.1 y hy
      unfold cliLt at this
      simp only [decide_eq_true_eq]
      omega
    cases j with
    | zero =>
      simp only [List.getElem?_cons_zero, Option.some.injEq] at hx
      subst hx
      by_cases e : a.client < c
      · simp [e]
      · rw [hz e]
        simp [e]
    | succ j =>
      simp only [List.getElem?_cons_succ] at hx
      have := ih h.2 hx
      unfold posC at this
      by_cases e : a.client < c
      · simp [e]
        omega
      · have hax := h.1 x (List.mem_of_getElem? hx)
        unfold cliLt at hax
        rw [hz e]
        simp [e]
        omega
theorem findC_pos {l : List Hol} (h : l.Pairwise cliLt) {c : Int} {x : Hol} (hx : findC l c = some x) : l[posC l c]? = some x := by
  obtain ⟨h1, h2⟩ := findC_some hx
  obtain ⟨j, hj, rfl⟩ := List.getElem_of_mem h1
  have hjx : l[j]? = some l[j] := List.getElem?_eq_getElem hj
  have hn : ¬ j < posC l c := fun e => by have := (posC_iff h hjx).2 e; omega
  have hp' : l[posC l c]? = some (l[posC l c]'(by omega)) := List.getElem?_eq_getElem (by omega)
  rw [hp']
  have h4 : ¬ (l[posC l c]'(by omega)).client < c := fun e => by have := (posC_iff h hp').1 e; omega
  rcases Nat.lt_or_ge (posC l c) j with e | e
  · have := (List.pairwise_iff_getElem.1 h) (posC l c) j (by omega) hj e
    unfold cliLt at this
    omega
  · have e' : posC l c = j := by omega
    simp only [e']
theorem findC_at {l : List Hol} (h : l.Pairwise cliLt) (c : Int) : findC l c = match l[posC l c]? with | some x => if x.client = c then some x else none | none => none := by
  cases hg : findC l c with
  | some x =>
    rw [findC_pos h hg]
    simp [(findC_some hg).2]
  | none =>
    cases hp : l[posC l c]? with
    | none => rfl
    | some x =>
      have := findC_none hg x (List.mem_of_getElem? hp)
      simp [this]

/-- The others whose holds conflict. -/
def isO (c m : Int) (x : Hol) : Bool := decide (x.client ≠ c ∧ (m ≠ 1 ∨ x.mode = 2))
def othersL (l : List Hol) (c m : Int) : List Int := (l.filter (isO c m)).map (·.client)
theorem others_snoc (l : List Hol) (c m : Int) (x : Hol) : othersL (l ++ [x]) c m = othersL l c m ++ (if isO c m x then [x.client] else []) := by
  unfold othersL
  rw [List.filter_append, List.map_append]
  congr 1
  by_cases e : isO c m x <;> simp [e]
theorem others_le (l : List Hol) (c m : Int) : (othersL l c m).length ≤ l.length := by
  unfold othersL
  rw [List.length_map]
  exact List.length_filter_le _ _

/-- Without a client's. -/
def noC (c : Int) (x : Hol) : Bool := decide (x.client ≠ c)
def withoutH (l : List Hol) (c : Int) : List Hol := l.filter (noC c)
theorem without_snoc (l : List Hol) (c : Int) (x : Hol) : withoutH (l ++ [x]) c = withoutH l c ++ (if noC c x then [x] else []) := by
  unfold withoutH
  rw [List.filter_append]
  congr 1
  by_cases e : noC c x <;> simp [e]
theorem without_sub (l : List Hol) (c : Int) : (withoutH l c).Sublist l := List.filter_sublist
theorem without_none {l : List Hol} {c : Int} (h : findC l c = none) : withoutH l c = l := by
  unfold withoutH
  rw [List.filter_eq_self]
  intro x hx
  simpa [noC] using findC_none h x hx
theorem without_no {l : List Hol} {c : Int} : findC (withoutH l c) c = none := findC_none_of fun x hx => by
  have := (List.mem_filter.1 hx).2
  simpa [noC] using this
theorem without_at {l : List Hol} (h : l.Pairwise cliLt) {c : Int} {x : Hol} (hx : findC l c = some x) : withoutH l c = l.take (posC l c) ++ l.drop (posC l c + 1) := by
  have hp := findC_pos h hx
  have hc := (findC_some hx).2
  have h1 := List.take_append_drop (posC l c + 1) l
  rw [get_snoc hp] at h1
  have ha : ∀ y ∈ l.take (posC l c), noC c y = true := fun y hy => by
    obtain ⟨j, hj, rfl⟩ := List.getElem_of_mem hy
    rw [List.length_take] at hj
    have hx : l[j]? = some l[j] := List.getElem?_eq_getElem (by omega)
    have := (posC_iff h (c := c) hx).2 (by omega)
    rw [List.getElem_take]
    simp only [noC, decide_eq_true_eq]
    omega
  have hb : ∀ y ∈ l.drop (posC l c + 1), noC c y = true := fun y hy => by
    obtain ⟨j, hj, rfl⟩ := List.getElem_of_mem hy
    rw [List.length_drop] at hj
    have := (List.pairwise_iff_getElem.1 h) (posC l c) (posC l c + 1 + j) (by omega) (by omega) (by omega)
    obtain ⟨i1, e1⟩ := List.getElem?_eq_some_iff.1 hp
    rw [e1] at this
    unfold cliLt at this
    rw [List.getElem_drop]
    simp only [noC, decide_eq_true_eq]
    omega
  unfold withoutH
  conv => lhs; rw [← h1]
  rw [List.filter_append, List.filter_append, List.filter_eq_self.2 ha, List.filter_eq_self.2 hb]
  simp [noC, hc]

/-- With one more. -/
def insH (l : List Hol) (x : Hol) : List Hol := l.take (posC l x.client) ++ x :: l.drop (posC l x.client)
theorem ins_perm (l : List Hol) (x : Hol) : (insH l x).Perm (x :: l) := by
  have h := List.perm_middle (a := x) (l₁ := l.take (posC l x.client)) (l₂ := l.drop (posC l x.client))
  rwa [List.take_append_drop] at h
theorem ins_length (l : List Hol) (x : Hol) : (insH l x).length = l.length + 1 := by simpa using (ins_perm l x).length_eq
theorem ins_rise {l : List Hol} {x : Hol} (h : l.Pairwise cliLt) (hn : findC l x.client = none) : (insH l x).Pairwise cliLt := by
  unfold insH
  have hs : (l.take (posC l x.client) ++ l.drop (posC l x.client)).Pairwise cliLt := by rwa [List.take_append_drop]
  rw [List.pairwise_append] at hs ⊢
  have ha : ∀ a ∈ l.take (posC l x.client), cliLt a x := fun a ha => by
    obtain ⟨j, hj, rfl⟩ := List.getElem_of_mem ha
    rw [List.length_take] at hj
    have hx : l[j]? = some l[j] := List.getElem?_eq_getElem (by omega)
    have := (posC_iff h (c := x.client) hx).2 (by omega)
    rw [List.getElem_take]
    exact this
  have hb : ∀ b ∈ l.drop (posC l x.client), cliLt x b := fun b hb => by
    obtain ⟨j, hj, rfl⟩ := List.getElem_of_mem hb
    rw [List.length_drop] at hj
    have hx : l[posC l x.client + j]? = some (l[posC l x.client + j]'(by omega)) := List.getElem?_eq_getElem (by omega)
    have h1 : ¬ (l[posC l x.client + j]'(by omega)).client < x.client := fun e => by have := (posC_iff h hx).1 e; omega
    have h2 := findC_none hn _ (List.mem_of_getElem? hx)
    rw [List.getElem_drop]
    unfold cliLt
    omega
  refine ⟨hs.1, List.pairwise_cons.2 ⟨hb, hs.2.1⟩, fun a h1 b h2 => ?_⟩
  rw [List.mem_cons] at h2
  rcases h2 with rfl | h2
  · exact ha a h1
  · exact hs.2.2 a h1 b h2
theorem ins_mem {l : List Hol} {x y : Hol} : y ∈ insH l x ↔ y = x ∨ y ∈ l := by rw [(ins_perm l x).mem_iff, List.mem_cons]

/-- Another epoch. -/
def turnL (l : Lk) : Lk := if l.epoch = 4294967295 then l else ⟨l.file, l.epoch + 1, 0, l.cut, false, l.gone, []⟩
def maxI (a b : Int) : Int := if a < b then b else a
def mayJ (u m : Int) : Prop := (m = 1 ∧ u ≠ 2) ∨ u = 0
instance (u m : Int) : Decidable (mayJ u m) := by unfold mayJ; exact inferInstance
/-- A client without a hold asks, where no other one's conflicts. -/
def joinL (l : Lk) (c m : Int) : Lk × Int :=
  if l.fenced = false then (l, 3) else if ¬ mayJ l.used m then (turnL l, 3) else if 4 ≤ l.hs.length then (l, 2) else (⟨l.file, l.epoch, maxI l.used m, l.cut, l.fenced, l.gone, insH l.hs ⟨c, m⟩⟩, 1)
def withL (l : Lk) (hs : List Hol) : Lk := ⟨l.file, l.epoch, l.used, l.cut, l.fenced, l.gone, hs⟩
def askL (l : Lk) (c m : Int) : Lk × Int × Int :=
  if ¬ (RightP l ∧ (m = 1 ∨ m = 2)) then (noL, 0, 1) else if l.gone = true then (l, 4, 0) else if othersL l.hs c m ≠ [] then (l, 2, 0) else if m ≤ modeH l.hs c then (l, 1, 0)
  else ((joinL (withL l (withoutH l.hs c)) c m).1, (joinL (withL l (withoutH l.hs c)) c m).2, 0)
theorem ask_arg {l : Lk} {c m : Int} (h : ¬ (RightP l ∧ (m = 1 ∨ m = 2))) : askL l c m = (noL, 0, 1) := by unfold askL; rw [if_pos h]
theorem ask_gone {l : Lk} {c m : Int} (h : RightP l ∧ (m = 1 ∨ m = 2)) (h1 : l.gone = true) : askL l c m = (l, 4, 0) := by unfold askL; rw [if_neg (fun k => k h), if_pos h1]
theorem ask_conf {l : Lk} {c m : Int} (h : RightP l ∧ (m = 1 ∨ m = 2)) (h1 : l.gone = false) (h2 : othersL l.hs c m ≠ []) : askL l c m = (l, 2, 0) := by unfold askL; rw [if_neg (fun k => k h), if_neg (by simp [h1]), if_pos h2]
theorem ask_has {l : Lk} {c m : Int} (h : RightP l ∧ (m = 1 ∨ m = 2)) (h1 : l.gone = false) (h2 : othersL l.hs c m = []) (h3 : m ≤ modeH l.hs c) : askL l c m = (l, 1, 0) := by unfold askL; rw [if_neg (fun k => k h), if_neg (by simp [h1]), if_neg (by simp [h2]), if_pos h3]
theorem ask_join {l : Lk} {c m : Int} (h : RightP l ∧ (m = 1 ∨ m = 2)) (h1 : l.gone = false) (h2 : othersL l.hs c m = []) (h3 : ¬ m ≤ modeH l.hs c) : askL l c m = ((joinL (withL l (withoutH l.hs c)) c m).1, (joinL (withL l (withoutH l.hs c)) c m).2, 0) := by
  unfold askL; rw [if_neg (fun k => k h), if_neg (by simp [h1]), if_neg (by simp [h2]), if_neg h3]
def returnL (l : Lk) (c e : Int) : Lk × Int := if ¬ RightP l then (noL, 1) else (if e = l.epoch then withL l (withoutH l.hs c) else l, 0)
def revokeL (l : Lk) : Lk × Int := if ¬ RightP l then (noL, 1) else (turnL l, 0)
def settleL (l : Lk) (e s : Int) : Lk × Int := if ¬ (RightP l ∧ s ≤ 1024) then (noL, 1) else (if l.fenced = false ∧ e = l.epoch then ⟨l.file, l.epoch, l.used, s, true, l.gone, l.hs⟩ else l, 0)
def minI (a b : Int) : Int := if b < a then b else a
def shrinkL (l : Lk) (s : Int) : Lk × Int := if ¬ RightP l then (noL, 1) else (⟨l.file, l.epoch, l.used, minI l.cut s, l.fenced, l.gone, l.hs⟩, 0)
/-- The program's Mode. -/
def modeL (l : Lk) (c : Int) : Int := if RightP l then modeH l.hs c else 0
def othL (l : Lk) (c m : Int) : List Int := if RightP l then othersL l.hs c m else []

/-! What is answered is right. -/
theorem okH.fewer {u : Int} {n k : Nat} {h : Hol} (o : okH u n h) (hk : k ≤ n) (h0 : 0 < k) : okH u k h := by unfold okH at *; omega
theorem RightP.sub {l : Lk} (h : RightP l) {hs : List Hol} (s : hs.Sublist l.hs) : RightP (withL l hs) := by
  have hle := s.length_le
  refine ⟨h.used, h.cut, by have := h.len; simp only [withL]; omega, fun h0 => h.may (by simp only [withL] at h0; omega), fun x hx => ?_, h.rise.sublist s⟩
  simp only [withL] at hx ⊢
  exact (h.ok x (s.subset hx)).fewer hle (List.length_pos_of_mem hx)
theorem RightP.empty {f e u k : Int} {fe go : Bool} (h1 : u ≤ 2) (h2 : k ≤ 1024) : RightP ⟨f, e, u, k, fe, go, []⟩ := ⟨h1, h2, by simp, by simp, by simp, by simp⟩
theorem RightP.turn {l : Lk} (h : RightP l) : RightP (turnL l) := by
  unfold turnL
  split
  · exact h
  · exact RightP.empty (by omega) h.cut
theorem noOther {l : List Hol} {c m : Int} (h : othersL l c m = []) {x : Hol} (hx : x ∈ l) (hc : x.client ≠ c) : m = 1 ∧ x.mode ≠ 2 := by
  unfold othersL at h
  rw [List.map_eq_nil_iff, List.filter_eq_nil_iff] at h
  have := h x hx
  simp only [isO, decide_eq_true_eq] at this
  by_cases e : m = 1 <;> by_cases e2 : x.mode = 2 <;> simp_all
theorem others_sub {l : List Hol} {c m : Int} {k : List Hol} (s : k.Sublist l) (h : othersL l c m = []) : othersL k c m = [] := by
  unfold othersL at *
  rw [List.map_eq_nil_iff] at *
  rw [List.filter_eq_nil_iff] at *
  exact fun x hx => h x (s.subset hx)
theorem RightP.join {l : Lk} (h : RightP l) {c m : Int} (hm : m = 1 ∨ m = 2) (hg : l.gone = false) (ho : othersL l.hs c m = []) (hn : findC l.hs c = none) : RightP (joinL l c m).1 := by
  unfold joinL
  split
  · exact h
  rename_i hf
  split
  · exact h.turn
  rename_i hj
  split
  · exact h
  rename_i h4
  rw [Classical.not_not] at hj
  have hf' : l.fenced = true := by simpa using hf
  have hu := h.used
  have hmax : maxI l.used m ≤ 2 := by unfold maxI; split <;> omega
  refine ⟨hmax, h.cut, by simp only [ins_length]; omega, fun _ => ⟨hf', hg⟩, fun x hx => ?_, ins_rise h.rise hn⟩
  simp only [ins_length]
  simp only [ins_mem] at hx
  rcases hx with rfl | hx
  · refine ⟨hm, by unfold maxI; simp only; split <;> omega, fun hh => ?_⟩
    simp only at hh
    have h0 : l.used = 0 := by unfold mayJ at hj; omega
    have he : l.hs = [] := by
      rw [List.eq_nil_iff_forall_not_mem]
      intro y hy
      have := h.ok y hy
      unfold okH at this
      omega
    simp [he] at hh
  · have ho' := noOther ho hx (findC_none hn x hx)
    have := h.ok x hx
    unfold okH at this ⊢
    refine ⟨this.1, ?_, fun hh => ho'.2 hh.1⟩
    unfold maxI
    split <;> omega
theorem RightP.ask {l : Lk} {c m : Int} (h : RightP l) (hm : m = 1 ∨ m = 2) : RightP (askL l c m).1 := by
  by_cases h1 : l.gone = true
  · rw [ask_gone ⟨h, hm⟩ h1]; exact h
  have h1' : l.gone = false := by simpa using h1
  by_cases h2 : othersL l.hs c m = []
  rotate_left
  · rw [ask_conf ⟨h, hm⟩ h1' h2]; exact h
  by_cases h3 : m ≤ modeH l.hs c
  · rw [ask_has ⟨h, hm⟩ h1' h2 h3]; exact h
  rw [ask_join ⟨h, hm⟩ h1' h2 h3]
  exact RightP.join (h.sub (without_sub _ _)) hm h1' (others_sub (without_sub _ _) h2) without_no
theorem ask_ok {l : Lk} {c m : Int} (h : RightP l) (hm : m = 1 ∨ m = 2) : (askL l c m).2.2 = 0 := by
  by_cases h1 : l.gone = true
  · rw [ask_gone ⟨h, hm⟩ h1]
  have h1' : l.gone = false := by simpa using h1
  by_cases h2 : othersL l.hs c m = []
  rotate_left
  · rw [ask_conf ⟨h, hm⟩ h1' h2]
  by_cases h3 : m ≤ modeH l.hs c
  · rw [ask_has ⟨h, hm⟩ h1' h2 h3]
  rw [ask_join ⟨h, hm⟩ h1' h2 h3]
end Go.Proofs.Ytnmmdnecojgccaa
