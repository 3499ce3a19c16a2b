/- Rows read one by one, in plain words: what is read fits; one more row. -/
import Derived.Test.YtalkhhjfplahkaaGreatKP
namespace Go.Proofs.YtalkhhjfplahkaaGreat
open Go.RowKit
set_option linter.unusedVariables false

/-- What has been read fits into memory. -/
structure FitB (n : Nat) (s : Sta) : Prop where
  fit : s.Fit
  wd : ∀ x ∈ s.works, x.data.length ≤ 1048576
  tl : s.tree.length ≤ n + 1
  ol : s.opens.length ≤ n
  ll : s.locks.length ≤ n
  wl : s.works.length ≤ n
  sl : s.seats.length ≤ n
theorem nu1_lt (st : List UInt8 × Nat) : nu1 st < 4294967296 := rNumber_lt _ _
theorem rText_short (m : Int) (bs : List UInt8) (e : Nat) : (rText m bs e).1.length ≤ bs.length := by
  unfold rText
  split
  · simp
  · split
    · simp
    · split
      · simp
      · split
        · simp
        · split
          · simp
          · simp only [List.length_take, List.length_drop]; omega
theorem u_nu (st : List UInt8 × Nat) : U ((nu1 st : Nat) : Int) := u_nat (nu1_lt st)
theorem u_at (bs : List UInt8) (k : Nat) : U ((numAt bs k : Nat) : Int) := u_nat (numAt_lt bs k)
theorem hol_fit : ∀ (l : List Nat), (∀ n ∈ l, n < 4294967296) → ∀ h ∈ pairsH l, h.Fit
  | [], _ => by simp [pairsH]
  | [_], _ => by simp [pairsH]
  | a :: b :: r, hl => by
    intro h hh
    simp only [pairsH, List.mem_cons] at hh
    rcases hh with rfl | hh
    · exact ⟨u_nat (hl a (by simp)), u_nat (hl b (by simp))⟩
    · exact hol_fit r (fun n hn => hl n (by simp [hn])) h hh
theorem ls1_lt (st : List UInt8 × Nat) : ∀ n ∈ ls1 8 st, n < 4294967296 := by
  unfold ls1 rList
  split
  · simp
  · split
    · simp
    · split
      · simp
      · split
        · simp
        · exact decNs_lt _ _
theorem rds_len (bs : List UInt8) : ∀ k, (rds bs k).1.length ≤ bs.length
  | 0 => Nat.le_refl _
  | k + 1 => Nat.le_trans (rNumber_len _ _) (rds_len bs k)
theorem tx1_short (m : Int) (st : List UInt8 × Nat) : (tx1 m st).length ≤ st.1.length := rText_short m st.1 st.2
theorem work_short (k v : List UInt8) (h : v.length ≤ 1048576) : (workOf k v).data.length ≤ 1048576 := by
  unfold workOf
  simp only
  exact Nat.le_trans (tx1_short _ _) (Nat.le_trans (rds_len _ _) h)
theorem lock_fit (k v : List UInt8) : (lockOf k v).Fit := by
  have h := hol_fit (ls1 8 (fl2 (fl2 (rds v 3)))) (ls1_lt (fl2 (fl2 (rds v 3))))
  unfold lockOf
  generalize pairsH (ls1 8 (fl2 (fl2 (rds v 3)))) = hs at *
  exact ⟨u_at _ _, u_at _ _, u_at _ _, u_at _ _, h⟩
theorem node_fit (k v : List UInt8) : (nodeOf k v).Fit := by
  unfold nodeOf
  generalize tx1 8 (nu2 (fl2 (rds v 1))) = a
  generalize fl1 (rds v 1) = b
  exact ⟨u_at _ _, u_at _ _, u_nu _⟩
theorem open_fit (k v : List UInt8) : (openOf k v).Fit := by unfold openOf; exact ⟨u_at _ _, u_at _ _, u_at _ _, u_at _ _, numAt_lt _ _⟩
theorem seat_fit (k v : List UInt8) : (seatOf k v).Fit := by
  have h := readP_ok v
  unfold seatOf
  generalize readP v = p at *
  exact ⟨u_at _ _, h⟩
theorem work_fit (k v : List UInt8) : (workOf k v).Fit := by
  unfold workOf
  generalize tx1 64 (rds v 6) = a
  exact ⟨u_at _ _, u_at _ _, u_at _ _, u_at _ _, i_nat (numAt_lt _ _), u_at _ _, u_at _ _⟩
theorem FitB.one {n : Nat} {s : Sta} (h : FitB n s) (c : Ch) (hc : c.val.length ≤ 1048576) : FitB (n + 1) (oneL s c) := by
  obtain ⟨⟨f0, f1, f2, f3, f4, f5, f6⟩, hw, l1, l2, l3, l4, l5⟩ := h
  unfold oneL
  split
  · exact ⟨⟨f0, f1, f2, f3, f4, f5, f6⟩, hw, by omega, by omega, by omega, by omega, by omega⟩
  · rename_i a k he
    split
    · exact ⟨⟨u_at _ _, f1, f2, f3, f4, f5, f6⟩, hw, by simp only; omega, by simp only; omega, by simp only; omega, by simp only; omega, by simp only; omega⟩
    split
    · exact ⟨⟨f0, u_at _ _, f2, f3, f4, f5, f6⟩, hw, by simp only; omega, by simp only; omega, by simp only; omega, by simp only; omega, by simp only; omega⟩
    split
    · refine ⟨⟨f0, f1, f2, f3, fun x hx => ?_, f5, f6⟩, hw, by simp only; omega, by simp only; omega, by simp; omega, by simp only; omega, by simp only; omega⟩
      rcases List.mem_append.1 hx with hx | hx
      · exact f4 x hx
      · rw [List.mem_singleton] at hx; subst hx
        exact lock_fit _ _
    split
    · refine ⟨⟨f0, f1, fun x hx => ?_, f3, f4, f5, f6⟩, hw, by simp; omega, by simp only; omega, by simp only; omega, by simp only; omega, by simp only; omega⟩
      rcases List.mem_append.1 hx with hx | hx
      · exact f2 x hx
      · rw [List.mem_singleton] at hx; subst hx
        exact node_fit _ _
    split
    · refine ⟨⟨f0, f1, f2, fun x hx => ?_, f4, f5, f6⟩, hw, by simp only; omega, by simp; omega, by simp only; omega, by simp only; omega, by simp only; omega⟩
      rcases List.mem_append.1 hx with hx | hx
      · exact f3 x hx
      · rw [List.mem_singleton] at hx; subst hx
        exact open_fit _ _
    split
    · refine ⟨⟨f0, f1, f2, f3, f4, f5, fun x hx => ?_⟩, hw, by simp only; omega, by simp only; omega, by simp only; omega, by simp only; omega, by simp; omega⟩
      rcases List.mem_append.1 hx with hx | hx
      · exact f6 x hx
      · rw [List.mem_singleton] at hx; subst hx
        exact seat_fit _ _
    split
    · refine ⟨⟨f0, f1, f2, f3, f4, fun x hx => ?_, f6⟩, fun x hx => ?_, by simp only; omega, by simp only; omega, by simp only; omega, by simp; omega, by simp only; omega⟩
      · rcases List.mem_append.1 hx with hx | hx
        · exact f5 x hx
        · rw [List.mem_singleton] at hx; subst hx
          exact work_fit _ _
      · rcases List.mem_append.1 hx with hx | hx
        · exact hw x hx
        · rw [List.mem_singleton] at hx; subst hx
          exact work_short k c.val hc
    · exact ⟨⟨f0, f1, f2, f3, f4, f5, f6⟩, hw, by omega, by omega, by omega, by omega, by omega⟩
theorem base_fit : FitB 0 baseS := by
  refine ⟨⟨⟨by decide, by decide⟩, ⟨by decide, by decide⟩, ?_, by simp [baseS], by simp [baseS], by simp [baseS], by simp [baseS]⟩, by simp [baseS], by simp [baseS], by simp [baseS], by simp [baseS], by simp [baseS], by simp [baseS]⟩
  intro x hx
  simp [baseS] at hx
  subst hx
  exact ⟨⟨by decide, by decide⟩, ⟨by decide, by decide⟩, ⟨by decide, by decide⟩⟩
theorem fold_take {l : List Ch} {n : Nat} {x : Ch} (h : l[n]? = some x) : (l.take (n + 1)).foldl oneL baseS = oneL ((l.take n).foldl oneL baseS) x := by
  rw [List.take_add_one, h]
  simp
theorem fold_fit {l : List Ch} (hv : ∀ x ∈ l, x.val.length ≤ 1048576) : ∀ n, n ≤ l.length → FitB n ((l.take n).foldl oneL baseS)
  | 0, _ => base_fit
  | n + 1, hn => by
    have hx : l[n]? = some l[n] := List.getElem?_eq_getElem (by omega)
    rw [fold_take hx]
    exact (fold_fit hv n (by omega)).one _ (hv _ (List.getElem_mem _))

/-- The state that was read, in memory. -/
theorem LdR.stM2 {b : Bs} {w : World} {gx : Nat} {s : Sta} {tv ov kv wv sv : Value} {lvs : List Lv} {n : Nat} (h : LdR b w gx s tv ov kv wv sv lvs) (f : FitB n s) (hn : n ≤ 1000000) :
    ∃ q, (∀ (S : List Nat) (W : World), Only S w W → (∀ i ∈ S, i < b.w.heap.size) → StM W s q) ∧ staA s q = #[.int .u32 s.boot, .int .u32 s.next, tv, ov, kv, wv, sv] ∧ staV s q = .agg #[.int .u32 s.boot, .int .u32 s.next, tv, ov, kv, wv, sv] := by
  obtain ⟨A1, c1, rfl, e1, d1, f1, _⟩ := h.mt.shape ndE_length
  obtain ⟨A2, c2, rfl, e2, d2, f2, _⟩ := h.mo.shape opE_length
  obtain ⟨A3, c3, rfl, e3, d3, f3, _⟩ := h.ml.shape lvE_length
  obtain ⟨A4, c4, rfl, e4, d4, f4, _⟩ := h.mw.shape wkE_length
  obtain ⟨A5, c5, rfl, e5, d5, f5, _⟩ := h.ms.shape seaE_length
  have hll : s.locks.length = lvs.length := by rw [h.lks, List.length_map]
  have t1 := f.tl
  have t2 := f.ol
  have t3 := f.ll
  have t4 := f.wl
  have t5 := f.sl
  refine ⟨⟨A1, c1, A2, c2, A3, c3, lvs, A4, c4, A5, c5⟩, ?_, by simp [staA, hll], by simp [staV, hll]⟩
  intro S W k hS
  have hn : ∀ (A : Option Addr), (∀ a, A = some a → b.w.heap.size ≤ a.block) → ∀ a, A = some a → a.block ∉ S := fun A hA a ha hm => by
    have := hA a ha
    have := hS _ hm
    omega
  exact { tree := e1.kept k (hn _ f1), tc := d1, tl := by omega, opens := e2.kept k (hn _ f2), oc := d2, ol := by omega, lks := h.lks, locks := e3.kept k (hn _ f3), lvs := fun x hx => ⟨by
      obtain ⟨_, _, h2⟩ := h.hs x hx
      rcases h2 with h2 | ⟨g, o, a1, a2, a3, a4, _⟩
      · exact .inl h2
      · exact .inr ⟨g, o, a1, Nat.lt_of_lt_of_le a2 k.size, a3.kept k (fun hm => by have := hS _ hm; omega)⟩, (h.hs x hx).1⟩, lc := by rw [hll]; exact d3, ll := by omega, lh := fun x hx => (h.hs x hx).2.1, works := e4.kept k (hn _ f4), wc := d4, wl := by omega, wd := f.wd, seats := e5.kept k (hn _ f5), sc := d5, sl := by omega, fit := f.fit }

end Go.Proofs.YtalkhhjfplahkaaGreat
