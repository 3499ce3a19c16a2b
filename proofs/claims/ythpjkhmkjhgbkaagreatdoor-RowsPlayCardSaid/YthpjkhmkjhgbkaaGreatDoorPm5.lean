/- The document's plan in memory. -/
import Derived.Test.YthpjkhmkjhgbkaaGreatDoorPl6
import Derived.Test.YthpjkhmkjhgbkaaGreatDoorRw5
namespace Go.Proofs.YthpjkhmkjhgbkaaGreatDoor
open Go.RowKit Go.Maps

def strVs (T : List (List UInt8)) : Array Value := (strCells T).toArray
theorem strVs_set (T : List (List UInt8)) (i : Nat) (d : List UInt8) : (strVs T).setIfInBounds i (.string (strOf d)) = strVs (T.set i d) := by simp [strVs, strCells, List.map_set]
theorem strVs_at (T : List (List UInt8)) (i : Nat) (h : i < T.length) : (strVs T)[i]? = some (.string (strOf T[i])) := by simp [strVs, strCells, h]
theorem rws_set (l : List Rw) (k : Nat) (y : Rw) (h : l[k]? = some y) (d : List UInt8) : encs rwE (l.set k ⟨y.key, d, y.at_⟩) = (encs rwE l).set (k * 3 + 1) (.string (strOf d)) := by
  induction l generalizing k with
  | nil => simp at h
  | cons x r ih =>
    cases k with
    | zero =>
      simp only [List.getElem?_cons_zero, Option.some.injEq] at h
      subst h
      simp [encs, rwE]
    | succ k =>
      simp only [List.getElem?_cons_succ] at h
      have := ih k h
      have e : (k + 1) * 3 + 1 = (k * 3 + 1) + 3 := by omega
      rw [e]
      simp only [List.set_cons_succ, encs, List.map_cons, List.flatten_cons] at this ⊢
      rw [this]
      simp [rwE]

/-- The plan's lists in memory. -/
structure PMem (w wr : World) (ub tb vb : Nat) (v : Value) (st : PlanS) : Prop where
  now : Mine rwE 3 81 w wr v st.now
  used : Blk wr ub 4 (boolVs st.used)
  texts : Blk wr tb 9 (strVs st.texts)
  turned : Blk wr vb 4 (boolVs st.turned)
  oldu : w.heap.size ≤ ub
  oldt : w.heap.size ≤ tb
  oldv : w.heap.size ≤ vb
  ut : ub ≠ tb
  uv : ub ≠ vb
  tv : tb ≠ vb
  out : ∀ g, v.ownBlock = some g → g ≠ ub ∧ g ≠ tb ∧ g ≠ vb
section
variable {w w1 w2 : World} {ub tb vb : Nat} {v v' : Value} {st : PlanS}
theorem PMem.keep (h : PMem w w1 ub tb vb v st) (k : Only [] w1 w2) : PMem w w2 ub tb vb v st :=
  ⟨h.now.keep k, h.used.kept k (by simp), h.texts.kept k (by simp), h.turned.kept k (by simp), h.oldu, h.oldt, h.oldv, h.ut, h.uv, h.tv, h.out⟩
theorem Mine.past {α : Type} {enc : α → List Value} {k : Nat} {e : TypeId} {S : List Nat} {l : List α} (h : Mine enc k e w w1 v l) (kk : Only S w1 w2) (hS : ∀ i ∈ S, w.heap.size ≤ i) (hv : ∀ g, v.ownBlock = some g → g ∉ S) : Mine enc k e w w2 v l :=
  ⟨ownsRow_kept' h.own kk hv, h.new, h.only.then kk (fun i hi => .inr (hS i hi))⟩
theorem PMem.only (h : PMem w w1 ub tb vb v st) : Only [] w w1 := h.now.only
theorem PMem.setU (h : PMem w w1 ub tb vb v st) (i : Nat) (b : Bool) : PMem w (w1.setCell ⟨ub, i, none⟩ (.bool b)) ub tb vb v ⟨st.now, st.used.set i b, st.texts, st.turned⟩ := by
  have k : Only [ub] w1 (w1.setCell ⟨ub, i, none⟩ (.bool b)) := Only.set w1 [ub] (by simp) _
  have h2 := h.used.set i (.bool b)
  rw [boolVs_set] at h2
  exact ⟨h.now.past k (by simpa using h.oldu) (fun g hg => by simpa using (h.out g hg).1), h2, h.texts.kept k (by simpa using h.ut.symm), h.turned.kept k (by simpa using h.uv.symm), h.oldu, h.oldt, h.oldv, h.ut, h.uv, h.tv, h.out⟩
theorem PMem.setT (h : PMem w w1 ub tb vb v st) (i : Nat) (d : List UInt8) : PMem w (w1.setCell ⟨tb, i, none⟩ (.string (strOf d))) ub tb vb v ⟨st.now, st.used, st.texts.set i d, st.turned⟩ := by
  have k : Only [tb] w1 (w1.setCell ⟨tb, i, none⟩ (.string (strOf d))) := Only.set w1 [tb] (by simp) _
  have h2 := h.texts.set i (.string (strOf d))
  rw [strVs_set] at h2
  exact ⟨h.now.past k (by simpa using h.oldt) (fun g hg => by simpa using (h.out g hg).2.1), h.used.kept k (by simpa using h.ut), h2, h.turned.kept k (by simpa using h.tv.symm), h.oldu, h.oldt, h.oldv, h.ut, h.uv, h.tv, h.out⟩
theorem PMem.setV (h : PMem w w1 ub tb vb v st) (i : Nat) (b : Bool) : PMem w (w1.setCell ⟨vb, i, none⟩ (.bool b)) ub tb vb v ⟨st.now, st.used, st.texts, st.turned.set i b⟩ := by
  have k : Only [vb] w1 (w1.setCell ⟨vb, i, none⟩ (.bool b)) := Only.set w1 [vb] (by simp) _
  have h2 := h.turned.set i (.bool b)
  rw [boolVs_set] at h2
  exact ⟨h.now.past k (by simpa using h.oldv) (fun g hg => by simpa using (h.out g hg).2.2), h.used.kept k (by simpa using h.uv), h.texts.kept k (by simpa using h.tv), h2, h.oldu, h.oldt, h.oldv, h.ut, h.uv, h.tv, h.out⟩
theorem PMem.lay (h : PMem w w1 ub tb vb v st) {L : List Rw} (hm : Mine rwE 3 81 w1 w2 v' L) : PMem w w2 ub tb vb v' ⟨L, st.used, st.texts, st.turned⟩ := by
  have k := hm.only
  have h1 := h.used.lt
  have h2 := h.texts.lt
  have h3 := h.turned.lt
  refine ⟨hm.from h.only, h.used.kept k (by simp), h.texts.kept k (by simp), h.turned.kept k (by simp), h.oldu, h.oldt, h.oldv, h.ut, h.uv, h.tv, fun g hg => ?_⟩
  have := hm.new g hg
  omega
theorem PMem.setNow {g c : Nat} {n : Nat} (h : PMem w w1 ub tb vb (.slice (some ⟨g, 0, none⟩) n c) st) (hn : n = st.now.length) (i : Nat) (y : Rw) (hy : st.now[i]? = some y) (d : List UInt8) :
    PMem w (w1.setCell ⟨g, i * 3 + 1, none⟩ (.string (strOf d))) ub tb vb (.slice (some ⟨g, 0, none⟩) n c) ⟨st.now.set i ⟨y.key, d, y.at_⟩, st.used, st.texts, st.turned⟩ := by
  subst hn
  have k : Only [g] w1 (w1.setCell ⟨g, i * 3 + 1, none⟩ (.string (strOf d))) := Only.set w1 [g] (by simp) _
  have ho := h.out g rfl
  have h2 := ownsRow_set (i := i * 3 + 1) h.now.own (.string (strOf d))
  rw [← rws_set _ _ _ hy] at h2
  refine ⟨⟨by rw [List.length_set]; exact h2, h.now.new, h.now.only.then k (fun j hj => .inr ?_)⟩, h.used.kept k (by simpa using ho.1.symm), h.texts.kept k (by simpa using ho.2.1.symm), h.turned.kept k (by simpa using ho.2.2.symm), h.oldu, h.oldt, h.oldv, h.ut, h.uv, h.tv, h.out⟩
  simp only [List.mem_singleton] at hj
  subst hj
  exact h.now.new _ rfl
theorem PMem.atU (h : PMem w w1 ub tb vb v st) {i : Nat} (hi : i < st.used.length) : w1.cell? ⟨ub, i, none⟩ = some (.bool st.used[i]) ∧ w1.frozen? ⟨ub, i, none⟩ = false :=
  ⟨by rw [h.used.cell, boolVs_at _ _ hi], h.used.free i⟩
theorem PMem.atT (h : PMem w w1 ub tb vb v st) {i : Nat} (hi : i < st.texts.length) : w1.cell? ⟨tb, i, none⟩ = some (.string (strOf st.texts[i])) ∧ w1.frozen? ⟨tb, i, none⟩ = false :=
  ⟨by rw [h.texts.cell, strVs_at _ _ hi], h.texts.free i⟩
theorem PMem.atV (h : PMem w w1 ub tb vb v st) {i : Nat} (hi : i < st.turned.length) : w1.cell? ⟨vb, i, none⟩ = some (.bool st.turned[i]) ∧ w1.frozen? ⟨vb, i, none⟩ = false :=
  ⟨by rw [h.turned.cell, boolVs_at _ _ hi], h.turned.free i⟩
end

theorem Mine.elsAt {w w1 : World} {e : TypeId} {g o c i n : Nat} {l : List Rw} (h : Mine rwE 3 e w w1 (.slice (some ⟨g, o, none⟩) n c) l) (hi : i < l.length) : ElsAt rwE 3 w1 g o l := by
  obtain ⟨A, c', he, hel, _⟩ := h.shape rwE_length
  obtain ⟨g', o', hA, _, hat⟩ := hel.get hi
  subst hA
  injection he with he _ _
  injection he with he
  injection he with h1 h2 _
  subst h1
  subst h2
  exact hat
/-- A row is taken out at its place. -/
theorem del_at {M : List Rw} (hs : Sorted M) {i : Nat} {r : Rw} (h : M[i]? = some r) : M.take i ++ M.drop (i + 1) = delR M r.key := by
  obtain ⟨hi, he⟩ := List.getElem?_eq_some_iff.1 h
  have hk := List.pairwise_iff_getElem.1 hs.keys
  have hd : M = M.take i ++ r :: M.drop (i + 1) := by rw [← he, List.getElem_cons_drop, List.take_append_drop]
  have h1 : (M.take i).filter (fun x => !(x.key == r.key)) = M.take i := by
    rw [List.filter_eq_self]
    intro x hx
    obtain ⟨j, hj, rfl⟩ := List.getElem_of_mem hx
    rw [List.length_take] at hj
    rw [List.getElem_take]
    have := hk j i (by omega) hi (by omega)
    rw [he] at this
    simpa using this
  have h2 : (M.drop (i + 1)).filter (fun x => !(x.key == r.key)) = M.drop (i + 1) := by
    rw [List.filter_eq_self]
    intro x hx
    obtain ⟨j, hj, rfl⟩ := List.getElem_of_mem hx
    rw [List.length_drop] at hj
    rw [List.getElem_drop]
    have := hk i (i + 1 + j) hi (by omega) (by omega)
    rw [he] at this
    simpa using fun e => this e.symm
  have h3 : delR M r.key = (M.take i ++ r :: M.drop (i + 1)).filter (fun x => !(x.key == r.key)) := by unfold delR; rw [← hd]
  rw [h3, List.filter_append, h1, List.filter_cons_of_neg (by simp), h2]
/-- A row's value is turned at its place. -/
theorem set_at {M : List Rw} (hs : Sorted M) {i : Nat} {r : Rw} (h : M[i]? = some r) (d : List UInt8) : M.set i ⟨r.key, d, r.at_⟩ = putR M ⟨r.key, d, r.at_⟩ := by
  obtain ⟨hi, he⟩ := List.getElem?_eq_some_iff.1 h
  have hk := List.pairwise_iff_getElem.1 hs
  have h1 := insR_at ⟨r.key, d, r.at_⟩ (delR M r.key) i (by
    rw [← del_at hs h, List.length_append, List.length_take, List.length_drop]; omega) (fun j y hj hy => by
    rw [← del_at hs h, List.getElem?_append_left (by rw [List.length_take]; omega), List.getElem?_take, if_pos hj, List.getElem?_eq_getElem (by omega)] at hy
    injection hy with hy
    subst hy
    have := hk j i (by omega) hi hj
    rw [he] at this
    exact this) (fun y hy => by
    rw [← del_at hs h, List.getElem?_append_right (by rw [List.length_take]; omega), List.length_take, Nat.min_eq_left (by omega), Nat.sub_self, List.getElem?_drop] at hy
    obtain ⟨hi2, hy⟩ := List.getElem?_eq_some_iff.1 hy
    subst hy
    have := hk i (i + 1 + 0) hi hi2 (by omega)
    rw [he] at this
    exact this)
  unfold putR
  rw [h1, ← del_at hs h]
  rw [List.take_append_of_le_length (by rw [List.length_take]; omega), List.take_take, Nat.min_self, List.drop_append_of_le_length (by rw [List.length_take]; omega), List.drop_of_length_le (by rw [List.length_take]; omega)]
  rw [List.set_eq_take_append_cons_drop, if_pos hi]
  rfl
end Go.Proofs.YthpjkhmkjhgbkaaGreatDoor
