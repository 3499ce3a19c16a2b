/- What each block may be behind a crash. -/
import Derived.Test.YtohkfeolfemcnaaFirm
namespace Go.Proofs.Ytohkfeolfemcnaa
open Go.RowKit

/-- What each of four blocks may be: M j. -/
structure Might (k : Nat) (s : St) (M : Nat → List (List UInt8)) : Prop where
  four : s.firm.length = 4
  few : s.late.length ≤ k
  size : ∀ j, (M j).length ≤ k + 1
  firm : ∀ j, j < 4 → s.firm.getD j [] ∈ M j
  late : ∀ x ∈ s.late, x.2 ∈ M x.1

theorem burnt_live (s : St) (h : burns s = true) : (burnt s).dead = false := by
  have : s.dead = false := by
    cases hd : s.dead with
    | false => rfl
    | true => simp [burns, hd] at h
  unfold burnt
  rw [if_pos h]
  exact this

section
variable {k : Nat} {s : St} {M : Nat → List (List UInt8)}
theorem Might.more (h : Might k s M) : Might (k + 1) s M := ⟨h.four, by have := h.few; omega, fun j => by have := h.size j; omega, h.firm, h.late⟩
theorem Might.same {t : St} (h : Might k s M) (h1 : t.firm = s.firm) (h2 : t.late = s.late) : Might (k + 1) t M := ⟨by rw [h1]; exact h.four, by rw [h2]; have := h.few; omega, fun j => by have := h.size j; omega, by rw [h1]; exact h.firm, by rw [h2]; exact h.late⟩

def addAt (M : Nat → List (List UInt8)) (m : Nat) (b : List UInt8) : Nat → List (List UInt8) := fun j => if j = m then M j ++ [b] else M j

/-- A write that was done. -/
theorem Might.write (h : Might k s M) (x : Deed) (hr : x.kind.tmod 5 = 0) (he : actErr s x = 0) : ∃ m : Nat, x.at_ = m ∧ m < 4 ∧ Might (k + 1) (actSt s x) (addAt M m (rep 256 x.b)) := by
  have e1 : actErr s x = writeErr s x.at_ (rep 256 x.b) := by simp [actErr, hr]
  have e2 : actSt s x = written s x.at_ (rep 256 x.b) := by simp [actSt, hr]
  rw [e1] at he
  rw [e2]
  have hw : (hasBlock s.firm.length x.at_ && decide ((rep 256 x.b).length = 256)) = true := by
    cases hh : (hasBlock s.firm.length x.at_ && decide ((rep 256 x.b).length = 256)) with
    | true => rfl
    | false => rw [writeErr, if_pos hh] at he; exact absurd he (by decide)
  have hb : burns s = true := by
    cases hh : burns s with
    | true => rfl
    | false => rw [writeErr, if_neg (by rw [hw]; decide), if_pos hh] at he; exact absurd he (by decide)
  have hat : 0 ≤ x.at_ ∧ x.at_ < 4 := by
    simp [hasBlock, h.four] at hw
    exact ⟨hw.1.1, hw.1.2⟩
  refine ⟨x.at_.toNat, by omega, by omega, ?_⟩
  have e3 : written s x.at_ (rep 256 x.b) = { burnt s with late := s.late ++ [(x.at_.toNat, rep 256 x.b)] } := by
    unfold written
    rw [hw, hb]
    simp
  rw [e3]
  refine ⟨by simp only [burnt_firm]; exact h.four, by have := h.few; simp; omega, fun j => ?_, fun j hj => ?_, fun y hy => ?_⟩
  · have := h.size j
    unfold addAt
    split
    · simp; omega
    · omega
  · simp only [burnt_firm]
    unfold addAt
    split
    · exact List.mem_append_left _ (h.firm j hj)
    · exact h.firm j hj
  · unfold addAt
    rcases List.mem_append.1 hy with hy | hy
    · split
      · exact List.mem_append_left _ (h.late y hy)
      · exact h.late y hy
    · simp at hy
      subst hy
      simp
/-- A write that was not done. -/
theorem Might.unwritten (h : Might k s M) (x : Deed) (hr : x.kind.tmod 5 = 0) (he : ¬ actErr s x = 0) : Might (k + 1) (actSt s x) M := by
  have e1 : actErr s x = writeErr s x.at_ (rep 256 x.b) := by simp [actErr, hr]
  have e2 : actSt s x = written s x.at_ (rep 256 x.b) := by simp [actSt, hr]
  rw [e1] at he
  rw [e2]
  unfold written
  unfold writeErr at he
  split
  · exact h.more
  · rename_i hw
    split
    · exact h.same (burnt_firm s) (burnt_late s)
    · rename_i hb
      rw [if_neg hw, if_neg hb] at he
      exact absurd rfl he
/-- What settles all: behind it each block is just one. -/
theorem Might.settles (h : Might k s M) (x : Deed) (hr : (x.kind.tmod 5 = 1 ∧ actErr s x = 0) ∨ x.kind.tmod 5 = 3) :
    (actSt s x).late = [] ∧ (actSt s x).dead = false ∧ (actSt s x).firm.length = 4 := by
  have h4 : (actSt s x).firm.length = 4 := by rw [act_firm]; exact h.four
  refine (fun (h1 : _ ∧ _) => ⟨h1.1, h1.2, h4⟩) ?_
  rcases hr with ⟨h1, h2⟩ | h1
  · have e1 : actErr s x = barErr s := by simp [actErr, h1]
    have e2 : actSt s x = barred s := by simp [actSt, h1]
    rw [e1] at h2
    rw [e2]
    have hb : burns s = true := by
      cases hh : burns s with
      | true => rfl
      | false => rw [barErr, if_pos hh] at h2; exact absurd h2 (by decide)
    unfold barred
    rw [if_neg (by rw [hb]; decide)]
    exact ⟨rfl, burnt_live s hb⟩
  · have e2 : actSt s x = crashed s x.keep := by simp [actSt, h1]
    rw [e2]
    exact ⟨rfl, rfl⟩
theorem might_anew {t : St} (h0 : t.late = []) (h4 : t.firm.length = 4) (k : Nat) : Might k t (fun j => [t.firm.getD j []]) := ⟨h4, by rw [h0]; simp, fun j => by simp, fun j _ => by simp, by rw [h0]; simp⟩
/-- All else leaves them. -/
theorem Might.rest (h : Might k s M) (x : Deed) (h0 : ¬ x.kind.tmod 5 = 0) (h1 : ¬ ((x.kind.tmod 5 = 1 ∧ actErr s x = 0) ∨ x.kind.tmod 5 = 3)) : Might (k + 1) (actSt s x) M := by
  have h3 : ¬ x.kind.tmod 5 = 3 := fun e => h1 (.inr e)
  by_cases r1 : x.kind.tmod 5 = 1
  · have e1 : actErr s x = barErr s := by simp [actErr, r1]
    have e2 : actSt s x = barred s := by simp [actSt, r1]
    have hb : burns s = false := by
      cases hh : burns s with
      | false => rfl
      | true => exact absurd (.inl ⟨r1, by rw [e1, barErr, if_neg (by rw [hh]; decide)]⟩) h1
    rw [e2]
    unfold barred
    rw [if_pos hb]
    exact h.same (burnt_firm s) (burnt_late s)
  · by_cases r2 : x.kind.tmod 5 = 2
    · have e2 : actSt s x = lit s x.at_ := by simp [actSt, r2]
      rw [e2]
      exact h.same rfl rfl
    · have e2 : actSt s x = s := by simp [actSt, h0, r1, r2, h3]
      rw [e2]
      exact h.more
/-- The last crash. -/
theorem Might.last (h : Might k s M) (keep j : Nat) (hj : j < 4) : ∃ b, b ∈ M j ∧ readB (crashed s keep) j = b ∧ readErr (crashed s keep) j = 0 ∧ firmB (crashed s keep) j = b := by
  have hl : (crashed s keep).firm.length = 4 := by simp only [crashed, settledAll, settle_length]; exact h.four
  obtain ⟨f1, f2⟩ := calm_read (crashed s keep) rfl rfl hl j hj
  have hh : hasBlock (crashed s keep).firm.length j = true := by rw [hl]; simp [hasBlock]; omega
  refine ⟨(crashed s keep).firm.getD j [], ?_, f1, f2, by simp only [firmB, hh, Bool.true_eq_false, if_false, Int.toNat_natCast]⟩
  have hg := getD_get (l := (crashed s keep).firm) (k := j) (by omega) ([] : List UInt8)
  generalize (crashed s keep).firm.getD j [] = b at *
  have hg' : (settle keep s.late s.firm)[j]? = some b := hg
  rcases settle_mem keep s.firm j b s.late hg' with h1 | h1
  · have := h.firm j hj
    rw [List.getD_eq_getElem?_getD, h1] at this
    exact this
  · exact h.late _ h1
end

/-! Four lists of texts in memory. -/
def May (w : World) (Q : List Nat) (q : Nat) (V : Nat → Value) (M : Nat → List (List UInt8)) : Prop :=
  q ∈ Q ∧ Blk w q 55 #[V 0, V 1, V 2, V 3] ∧ ∀ k, k < 4 → w.ownsRow 0 9 1 (V k) (M k).length (strCells (M k)) ∧ (V k).ownBlock ≠ some q ∧ (∀ g, (V k).ownBlock = some g → g ∈ Q) ∧
    ∀ j, j < 4 → j ≠ k → ∀ g, (V k).ownBlock = some g → (V j).ownBlock ≠ some g

theorem ownsRow_keepQ {Q : List Nat} {w w' : World} {e : TypeId} {z : Nat} {v : Value} {n : Nat} {xs : List Value} (h : w.ownsRow 0 e z v n xs) (k : KeepQ Q w w') (hv : ∀ g, v.ownBlock = some g → g ∈ Q) : w'.ownsRow 0 e z v n xs := by
  refine ⟨h.1, ?_⟩
  rcases h.2 with h0 | ⟨g, cap, cur, rfl, hb, hg, r⟩
  · exact .inl h0
  · exact .inr ⟨g, cap, cur, rfl, hb, by rw [k g (hv g rfl)]; exact hg, r⟩

theorem May.kept {w w' : World} {Q : List Nat} {q : Nat} {V : Nat → Value} {M : Nat → List (List UInt8)} (h : May w Q q V M) (k : KeepQ Q w w') : May w' Q q V M := by
  obtain ⟨h1, h2, h3⟩ := h
  exact ⟨h1, k.blk h2 h1, fun j hj => by obtain ⟨a, b, c, d⟩ := h3 j hj; exact ⟨ownsRow_keepQ a k c, b, c, d⟩⟩
theorem May.wide {w : World} {Q Q' : List Nat} {q : Nat} {V : Nat → Value} {M : Nat → List (List UInt8)} (h : May w Q q V M) (hQ : ∀ g ∈ Q, g ∈ Q') : May w Q' q V M := by
  obtain ⟨h1, h2, h3⟩ := h
  exact ⟨hQ _ h1, h2, fun j hj => by obtain ⟨a, b, c, d⟩ := h3 j hj; exact ⟨a, b, fun g hg => hQ g (c g hg), d⟩⟩
theorem May.cell {w : World} {Q : List Nat} {q : Nat} {V : Nat → Value} {M : Nat → List (List UInt8)} (h : May w Q q V M) {m : Nat} (hm : m < 4) : w.cell? ⟨q, m, none⟩ = some (V m) := by
  rw [h.2.1.cell]
  match m, hm with
  | 0, _ => rfl
  | 1, _ => rfl
  | 2, _ => rfl
  | 3, _ => rfl

def putV (V : Nat → Value) (m : Nat) (v : Value) : Nat → Value := fun j => if j = m then v else V j
def putM (M : Nat → List (List UInt8)) (m : Nat) (l : List (List UInt8)) : Nat → List (List UInt8) := fun j => if j = m then l else M j
theorem addAt_put (M : Nat → List (List UInt8)) (m : Nat) (b : List UInt8) : addAt M m b = putM M m (M m ++ [b]) := by
  funext j
  unfold addAt putM
  split
  · rename_i h; subst h; rfl
  · rfl

/-- A list is put in the place of another one. -/
theorem May.put {w w1 : World} {Q : List Nat} {q : Nat} {V : Nat → Value} {M : Nat → List (List UInt8)} (h : May w Q q V M) {m : Nat} (hm : m < 4) {v : Value} {l : List (List UInt8)}
    (hown : w1.ownsRow 0 9 1 v l.length (strCells l)) (hkeep : ∀ g ∈ Q, (V m).ownBlock ≠ some g → w1.heap[g]? = w.heap[g]?) (hQ : ∀ g ∈ Q, g < w.heap.size) (hat : (v.ownBlock = (V m).ownBlock) ∨ ∃ g, v.ownBlock = some g ∧ w.heap.size ≤ g) :
    May (w1.setCell ⟨q, m, none⟩ v) (v.ownBlock.toList ++ Q) q (putV V m v) (putM M m l) := by
  obtain ⟨h1, h2, h3⟩ := h
  have hqV := (h3 m hm).2.1
  have hvq : v.ownBlock ≠ some q := by
    rcases hat with e | ⟨g, e, hg⟩
    · rw [e]; exact hqV
    · rw [e]
      intro e'
      injection e' with e'
      have := hQ q h1
      omega
  have hb : Blk w1 q 55 #[V 0, V 1, V 2, V 3] := (hkeep q h1 hqV).trans h2
  have hb2 := hb.set m v
  have kset : Only [q] w1 (w1.setCell ⟨q, m, none⟩ v) := Only.set w1 [q] (by simp) _
  refine ⟨by simp [h1], ?_, fun k hk => ?_⟩
  · have e : #[V 0, V 1, V 2, V 3].setIfInBounds m v = #[putV V m v 0, putV V m v 1, putV V m v 2, putV V m v 3] := by
      match m, hm with
      | 0, _ => rfl
      | 1, _ => rfl
      | 2, _ => rfl
      | 3, _ => rfl
    rw [e] at hb2
    exact hb2
  · obtain ⟨a, b, c, d⟩ := h3 k hk
    by_cases e : k = m
    · subst e
      simp only [putV, putM, if_true]
      refine ⟨ownsRow_kept' hown kset (fun g hg => by simp; rintro rfl; exact hvq hg), hvq, fun g hg => by simp [hg], fun j hj hjk g hg => ?_⟩
      rw [if_neg hjk]
      rcases hat with e | ⟨g', e, hg'⟩
      · rw [e] at hg
        exact d j hj hjk g hg
      · rw [e] at hg
        injection hg with hg
        subst hg
        intro e'
        have := hQ _ ((h3 j hj).2.2.1 _ e')
        omega
    · simp only [putV, putM, e, if_false]
      refine ⟨?_, b, fun g hg => by simp [c g hg], fun j hj hjk g hg => ?_⟩
      · refine ownsRow_kept' ?_ kset (fun g hg => by simp; rintro rfl; exact b hg)
        refine ⟨a.1, ?_⟩
        rcases a.2 with h0 | ⟨g, cap, cur, hv, hb', hg, r⟩
        · exact .inl h0
        · refine .inr ⟨g, cap, cur, hv, hb', ?_, r⟩
          have hgk : (V k).ownBlock = some g := by rw [hv]; rfl
          rw [hkeep g (c g hgk) (d m hm (fun e' => e e'.symm) g hgk)]
          exact hg
      · split
        · rename_i e'
          subst e'
          rcases hat with e | ⟨g', e, hg'⟩
          · rw [e]
            exact d j hj hjk g hg
          · rw [e]
            intro e'
            injection e' with e'
            have := hQ _ (c g hg)
            omega
        · exact d j hj hjk g hg

/-- An append onto one of the lists, and the list stored. -/
theorem May.grow {w wr wa w5 : World} {Q : List Nat} {q p m g n cp : Nat} {V : Nat → Value} {M : Nat → List (List UInt8)} {s : St} {l : List (List UInt8)} (hm : May wr Q q V M) (hr : RunQ w wr Q p s) (hm4 : m < 4) (ka : Only [] wr wa)
    (hown : w5.ownsRow 0 9 1 (.slice (some ⟨g, 0, none⟩) n cp) l.length (strCells l)) (hgrow : wa.grownBy w5 (V m).ownBlock) (hat : (V m).ownBlock = some g ∨ g = wa.heap.size) (hlt : g < w5.heap.size) :
    ∃ Q', May (w5.setCell ⟨q, m, none⟩ (.slice (some ⟨g, 0, none⟩) n cp)) Q' q (putV V m (.slice (some ⟨g, 0, none⟩) n cp)) (putM M m l) ∧ RunQ w (w5.setCell ⟨q, m, none⟩ (.slice (some ⟨g, 0, none⟩) n cp)) Q' p s ∧ ∀ i ∈ Q, i ∈ Q' := by
  have hQ : ∀ i ∈ Q, i < wr.heap.size := by
    obtain ⟨F, _, _, _, h4⟩ := id hr
    exact fun i hi => (h4 i hi).2
  have hs := ka.size
  refine ⟨_, hm.put hm4 hown (fun g' hg' hne => (hgrow.block g' (Nat.lt_of_lt_of_le (hQ g' hg') hs) (fun e => hne e.symm)).trans (ka.block g' (hQ g' hg') (by simp))) hQ ?_, hr.turn (((ka.more (T := Q) (by simp)).grown hgrow (fun k hk => .inl ((hm.2.2 m hm4).2.2.1 k hk))).setCell (.inl hm.1) _) ?_, fun i hi => by simp [hi]⟩
  · rcases hat with e | e
    · exact .inl e.symm
    · exact .inr ⟨g, rfl, by omega⟩
  · intro i hi
    have hsz : (w5.setCell ⟨q, m, none⟩ (.slice (some ⟨g, 0, none⟩) n cp)).heap.size = w5.heap.size := by simp [World.setCell]
    rw [hsz]
    simp only [Value.ownBlock, Option.toList_some, List.cons_append, List.nil_append, List.mem_cons] at hi
    rcases hi with rfl | hi
    · refine ⟨?_, hlt⟩
      rcases hat with e | e
      · exact .inl ((hm.2.2 m hm4).2.2.1 _ e)
      · exact .inr (by omega)
    · exact ⟨.inl hi, Nat.lt_of_lt_of_le (hQ i hi) (Nat.le_trans hs hgrow.size)⟩

/-- A list made anew, and stored. -/
theorem May.renew {w wr wa w5 : World} {Q : List Nat} {q p m g g0 n cp : Nat} {V : Nat → Value} {M : Nat → List (List UInt8)} {s : St} {l : List (List UInt8)} (hm : May wr Q q V M) (hr : RunQ w wr Q p s) (hm4 : m < 4) (ka : Only [] wr wa)
    (hown : w5.ownsRow 0 9 1 (.slice (some ⟨g, 0, none⟩) n cp) l.length (strCells l)) (hg0 : wr.heap.size ≤ g0) (hgrow : wa.grownBy w5 (some g0)) (hat : g0 = g ∨ g = wa.heap.size) (hlt : g < w5.heap.size) :
    ∃ Q', May (w5.setCell ⟨q, m, none⟩ (.slice (some ⟨g, 0, none⟩) n cp)) Q' q (putV V m (.slice (some ⟨g, 0, none⟩) n cp)) (putM M m l) ∧ RunQ w (w5.setCell ⟨q, m, none⟩ (.slice (some ⟨g, 0, none⟩) n cp)) Q' p s ∧ ∀ i ∈ Q, i ∈ Q' := by
  have hQ : ∀ i ∈ Q, i < wr.heap.size := by
    obtain ⟨F, _, _, _, h4⟩ := id hr
    exact fun i hi => (h4 i hi).2
  have hs := ka.size
  have hgg : wr.heap.size ≤ g := by omega
  refine ⟨_, hm.put hm4 hown (fun g' hg' _ => (hgrow.block g' (Nat.lt_of_lt_of_le (hQ g' hg') hs) (fun e => by
    injection e with e
    have := hQ g' hg'
    omega)).trans (ka.block g' (hQ g' hg') (by simp))) hQ (.inr ⟨g, rfl, hgg⟩), hr.turn (((ka.more (T := Q) (by simp)).grown hgrow (fun k hk => .inr (by
      injection hk with hk
      omega))).setCell (.inl hm.1) _) ?_, fun i hi => by simp [hi]⟩
  intro i hi
  have hsz : (w5.setCell ⟨q, m, none⟩ (.slice (some ⟨g, 0, none⟩) n cp)).heap.size = w5.heap.size := by simp [World.setCell]
  rw [hsz]
  simp only [Value.ownBlock, Option.toList_some, List.cons_append, List.nil_append, List.mem_cons] at hi
  rcases hi with rfl | hi
  · exact ⟨.inr hgg, hlt⟩
  · exact ⟨.inl hi, Nat.lt_of_lt_of_le (hQ i hi) (Nat.le_trans hs hgrow.size)⟩

theorem might_single {t : St} {k : Nat} {M : Nat → List (List UInt8)} (h0 : t.late = []) (h4 : t.firm.length = 4) (hM : ∀ j, j < 4 → M j = [t.firm.getD j []]) (hs : ∀ j, (M j).length ≤ k + 2) : Might (k + 1) t M :=
  ⟨h4, by rw [h0]; simp, hs, fun j hj => by rw [hM j hj]; simp, by rw [h0]; simp⟩

/-- '[]T{}': a row of no elements. -/
theorem owns_empty (w : World) (e : TypeId) : (w.alloc (.cells #[] e)).ownsRow 0 e 1 (.slice (some ⟨w.heap.size, 0, none⟩) 0 0) 0 [] :=
  ⟨rfl, .inr ⟨w.heap.size, 0, #[], rfl, Nat.zero_le _, Blk.new w e #[], Nat.le_refl _, Nat.zero_le _, rfl, rfl⟩⟩

theorem strCells_snoc (l : List (List UInt8)) (b : List UInt8) : strCells l ++ [.string (strOf b)] = strCells (l ++ [b]) := by simp [strCells]
theorem strCells_len (l : List (List UInt8)) : (strCells l).length = l.length := by simp [strCells]
theorem first_put (k : Nat) : putM (fun j => if j < k then [rep 256 0] else []) k [rep 256 0] = fun j => if j < k + 1 then [rep 256 0] else [] := by
  funext j
  unfold putM
  by_cases h1 : j = k
  · simp [h1]
  · by_cases h2 : j < k
    · simp [h2, h1]; omega
    · simp [h2, h1]; omega
theorem might_begin (k : Nat) (hk : 4 ≤ k) : Might 0 (fresh 4) (fun j => if j < k then [rep 256 0] else []) := by
  refine ⟨fresh_firm 4, by simp [Go.Proofs.Ytohkfeolfemcnaa.fresh], fun j => ?_, fun j hj => ?_, by simp [Go.Proofs.Ytohkfeolfemcnaa.fresh]⟩
  · split <;> simp
  · rw [if_pos (by omega)]
    have e : (Go.Proofs.Ytohkfeolfemcnaa.fresh 4).firm.getD j [] = rep 256 0 := by
      rw [List.getD_eq_getElem?_getD]
      simp only [Go.Proofs.Ytohkfeolfemcnaa.fresh, List.getElem?_replicate]
      rw [if_pos hj]
      rfl
    rw [e]
    simp
theorem RunQ.sub {w w1 : World} {Q Q' : List Nat} {p : Nat} {s : St} (h : RunQ w w1 Q p s) (hQ : ∀ g ∈ Q', g ∈ Q) : RunQ w w1 Q' p s := by
  have hq : ∀ q ∈ Q, q < w1.heap.size := by
    obtain ⟨F, _, _, _, h4⟩ := h
    exact fun q hq => (h4 q hq).2
  exact h.turn (Only.refl _ _) (fun q h' => ⟨.inl (hQ q h'), hq q (hQ q h')⟩)
theorem May.sub {w : World} {Q Q' : List Nat} {q : Nat} {V : Nat → Value} {M : Nat → List (List UInt8)} (h : May w Q q V M) (hq : q ∈ Q') (hQ : ∀ k, k < 4 → ∀ g, (V k).ownBlock = some g → g ∈ Q') : May w Q' q V M := by
  obtain ⟨_, h2, h3⟩ := h
  exact ⟨hq, h2, fun j hj => by obtain ⟨a, b, _, d⟩ := h3 j hj; exact ⟨a, b, hQ j hj, d⟩⟩
theorem renew_first {M : Nat → List (List UInt8)} {t : St} {j : Nat} {d : List UInt8} (hd : d = t.firm.getD j []) (h : ∀ i, i < j → M i = [t.firm.getD i []]) : ∀ i, i < j + 1 → putM M j [d] i = [t.firm.getD i []] := by
  intro i hi
  unfold putM
  by_cases e : i = j
  · rw [if_pos e, hd, e]
  · rw [if_neg e]
    exact h i (by omega)
theorem renew_size {M : Nat → List (List UInt8)} {j k : Nat} {d : List UInt8} (h : ∀ i, (M i).length ≤ k + 2) : ∀ i, (putM M j [d] i).length ≤ k + 2 := by
  intro i
  unfold putM
  split
  · simp
  · exact h i
theorem strOf_inj {a b : List UInt8} (h : strOf a = strOf b) : a = b := by
  have := congrArg (fun s => s.data.toList) h
  simpa [strOf] using this
theorem strOf_ne {a b : List UInt8} (h : a ≠ b) : ¬ strOf a = strOf b := fun e => h (strOf_inj e)
theorem strOf_beq {a b : List UInt8} (h : a ≠ b) : ((strOf a).toList == (strOf b).toList) = false := by
  rw [show (strOf a).toList = a from ByteArray.toList_mk _, show (strOf b).toList = b from ByteArray.toList_mk _]
  simpa using h
theorem take_ne {y : List (List UInt8)} {b : List UInt8} {n : Nat} (hn : n < y.length) (h : ∀ z ∈ y.take n, z ≠ b) (hz : y[n] ≠ b) : ∀ z ∈ y.take (n + 1), z ≠ b := by
  intro z hm
  rw [List.take_add_one, List.getElem?_eq_getElem hn] at hm
  rcases List.mem_append.1 hm with hm | hm
  · exact h z hm
  · simp at hm
    rw [hm]
    exact hz
end Go.Proofs.Ytohkfeolfemcnaa
