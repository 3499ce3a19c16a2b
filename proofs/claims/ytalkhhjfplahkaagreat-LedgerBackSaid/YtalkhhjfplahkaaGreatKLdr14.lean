/- A state that is read row by row: its lists grow apart from one another. -/
import Derived.Test.YtalkhhjfplahkaaGreatKSame14
import Derived.Test.YtalkhhjfplahkaaGreatKH
import Derived.Test.YtalkhhjfplahkaaGreatKK
namespace Go.Proofs.YtalkhhjfplahkaaGreat
open Go.RowKit
set_option linter.unusedVariables false

/-- Blocks that are apart: each number stands at one place alone. -/
def Dis (O : List (Option Nat)) : Prop := ∀ i j b : Nat, i < j → O[i]? = some (some b) → O[j]? = some (some b) → False
theorem Dis.ne {O : List (Option Nat)} (h : Dis O) {i j b c : Nat} (hi : O[i]? = some (some b)) (hj : O[j]? = some (some c)) (hij : i ≠ j) : b ≠ c := by
  rintro rfl
  rcases Nat.lt_or_ge i j with l | l
  · exact h i j b l hi hj
  · exact h j i b (by omega) hj hi
theorem Dis.set {O : List (Option Nat)} (h : Dis O) (k n : Nat) (hf : ∀ b, some b ∈ O → b < n) : Dis (O.set k (some n)) := by
  intro i j b hij hi hj
  rw [List.getElem?_set] at hi hj
  split at hi
  · rename_i e1
    subst e1
    split at hj
    · omega
    · split at hi
      · simp only [Option.some.injEq] at hi
        subst hi
        have := hf _ (List.mem_of_getElem? hj)
        omega
      · cases hi
  · split at hj
    · rename_i e1
      split at hj
      · simp only [Option.some.injEq] at hj
        subst hj
        have := hf _ (List.mem_of_getElem? hi)
        omega
      · cases hj
    · exact h i j b hij hi hj
def owns6 (gx : Nat) (tv ov kv wv sv : Value) : List (Option Nat) := [some gx, tv.ownBlock, ov.ownBlock, kv.ownBlock, wv.ownBlock, sv.ownBlock]

/-- Where reading began; a block that is to stay as it is. -/
structure Bs where
  w : World
  zb : Nat
  E : Option Obj
/-- What has been read so far, in memory since b; gx: the loader's own block. -/
structure LdR (b : Bs) (w : World) (gx : Nat) (s : Sta) (tv ov kv wv sv : Value) (lvs : List Lv) : Prop where
  mt : Mine ndE 5 42 b.w w tv s.tree
  mo : Mine opE 5 61 b.w w ov s.opens
  ml : Mine lvE 7 45 b.w w kv lvs
  mw : Mine wkE 8 50 b.w w wv s.works
  ms : Mine seaE 21 56 b.w w sv s.seats
  lks : s.locks = lvs.map (·.L)
  gx0 : b.w.heap.size ≤ gx
  gxl : gx < w.heap.size
  ap : Dis (owns6 gx tv ov kv wv sv)
  zn : some b.zb ∉ owns6 gx tv ov kv wv sv
  zl : b.zb < w.heap.size
  zk : w.heap[b.zb]? = b.E
  hs : ∀ x ∈ lvs, x.L.hs.length ≤ x.c ∧ x.L.hs.length ≤ 1048576 ∧ (x.L.hs = [] ∨ ∃ g o, x.A = some ⟨g, o, none⟩ ∧ g < w.heap.size ∧ ElsAt holE 2 w g o x.L.hs ∧ b.w.heap.size ≤ g ∧ some g ∉ owns6 gx tv ov kv wv sv)
theorem LdR.lt {b : Bs} {w : World} {gx : Nat} {s : Sta} {tv ov kv wv sv : Value} {lvs : List Lv} (h : LdR b w gx s tv ov kv wv sv lvs) : ∀ c, some c ∈ owns6 gx tv ov kv wv sv → c < w.heap.size := by
  intro c hc
  simp only [owns6, List.mem_cons, List.not_mem_nil, or_false] at hc
  rcases hc with hc | hc | hc | hc | hc | hc
  · injection hc with hc; subst hc; exact h.gxl
  · exact (h.mt.own.lt c hc.symm).2
  · exact (h.mo.own.lt c hc.symm).2
  · exact (h.ml.own.lt c hc.symm).2
  · exact (h.mw.own.lt c hc.symm).2
  · exact (h.ms.own.lt c hc.symm).2
theorem LdR.nx {b : Bs} {w : World} {gx : Nat} {s : Sta} {tv ov kv wv sv : Value} {lvs : List Lv} (h : LdR b w gx s tv ov kv wv sv lvs) {i c : Nat} (hi : (owns6 gx tv ov kv wv sv)[i + 1]? = some (some c)) : c ≠ gx := h.ap.ne (i := i + 1) (j := 0) hi rfl (by omega)
/-- What turns elsewhere, or in the loader's own block, turns nothing here. -/
theorem LdR.keep {b : Bs} {w w2 : World} {gx : Nat} {s : Sta} {tv ov kv wv sv : Value} {lvs : List Lv} (h : LdR b w gx s tv ov kv wv sv lvs) {S : List Nat} (k : Only S w w2) (hS : ∀ i ∈ S, i = gx ∨ w.heap.size ≤ i) : LdR b w2 gx s tv ov kv wv sv lvs := by
  have ho : Only [] b.w w2 := h.mt.only.then k (fun i hi => by
    rcases hS i hi with rfl | h1
    · exact .inr h.gx0
    · exact .inr (Nat.le_trans h.mt.only.size h1))
  have hne : ∀ i c, (owns6 gx tv ov kv wv sv)[i + 1]? = some (some c) → c ∉ S := fun i c hi hc => by
    rcases hS c hc with rfl | h1
    · exact h.nx hi rfl
    · have := h.lt c (List.mem_of_getElem? hi); omega
  exact { h with
    mt := ⟨ownsRow_kept' h.mt.own k (fun c hc => hne 0 c (by simp [owns6, hc])), h.mt.new, ho⟩
    mo := ⟨ownsRow_kept' h.mo.own k (fun c hc => hne 1 c (by simp [owns6, hc])), h.mo.new, ho⟩
    ml := ⟨ownsRow_kept' h.ml.own k (fun c hc => hne 2 c (by simp [owns6, hc])), h.ml.new, ho⟩
    mw := ⟨ownsRow_kept' h.mw.own k (fun c hc => hne 3 c (by simp [owns6, hc])), h.mw.new, ho⟩
    ms := ⟨ownsRow_kept' h.ms.own k (fun c hc => hne 4 c (by simp [owns6, hc])), h.ms.new, ho⟩
    gxl := Nat.lt_of_lt_of_le h.gxl k.size
    zl := Nat.lt_of_lt_of_le h.zl k.size
    zk := (k.block b.zb h.zl (fun hm => by
      rcases hS _ hm with h1 | h1
      · exact h.zn (by simp [owns6, h1])
      · have := h.zl; omega)).trans h.zk
    hs := fun x hx => by
      obtain ⟨h0, h1, h2⟩ := h.hs x hx
      refine ⟨h0, h1, ?_⟩
      rcases h2 with h2 | ⟨g, o, e, hg, hat, hb, hn⟩
      · exact .inl h2
      · refine .inr ⟨g, o, e, Nat.lt_of_lt_of_le hg k.size, hat.kept k (fun hm => ?_), hb, hn⟩
        rcases hS g hm with rfl | h1
        · exact hn (by simp [owns6])
        · omega }

theorem LdR.push_mt {b : Bs} {w w2 : World} {gx : Nat} {s : Sta} {tv ov kv wv sv v2 : Value} {lvs : List Lv} {x : Nd} (h : LdR b w gx s tv ov kv wv sv lvs) (h1 : w2.ownsRow 0 42 5 v2 (s.tree.length + 1) (encs ndE (s.tree ++ [x]))) (hg : w.grownBy w2 tv.ownBlock) (ha : v2.ownBlock = tv.ownBlock ∨ v2.ownBlock = some w.heap.size) :
    LdR b w2 gx { s with tree := s.tree ++ [x] } v2 ov kv wv sv lvs := by
  have hm := h.mt.pushed h1 hg ha
  have k := only_own hg
  have hne : ∀ i c, i ≠ 1 → (owns6 gx tv ov kv wv sv)[i]? = some (some c) → c ∉ tv.ownBlock.toList := fun i c hi hc hd => by
    have hd' : tv.ownBlock = some c := by simpa using hd
    exact h.ap.ne (i := i) (j := 1) hc (by simp [owns6, hd']) hi rfl
  have hap : Dis (owns6 gx v2 ov kv wv sv) := by
    rcases ha with e | e
    · have : owns6 gx v2 ov kv wv sv = owns6 gx tv ov kv wv sv := by simp [owns6, e]
      rw [this]; exact h.ap
    · have : owns6 gx v2 ov kv wv sv = (owns6 gx tv ov kv wv sv).set 1 (some w.heap.size) := by simp [owns6, e]
      rw [this]; exact h.ap.set _ _ h.lt
  have hmem : ∀ g, g < w.heap.size → some g ∉ owns6 gx tv ov kv wv sv → some g ∉ owns6 gx v2 ov kv wv sv := fun g hl hn hm => by
    rcases ha with e | e
    · exact hn (by simpa [owns6, e] using hm)
    · simp only [owns6, e, List.mem_cons, List.not_mem_nil, or_false] at hm hn
      simp only [Option.some.injEq] at hm
      have : ¬ g = w.heap.size := by omega
      simp_all
  have hho : ∀ x : Lv, (x.L.hs.length ≤ x.c ∧ x.L.hs.length ≤ 1048576 ∧ (x.L.hs = [] ∨ ∃ g o, x.A = some ⟨g, o, none⟩ ∧ g < w.heap.size ∧ ElsAt holE 2 w g o x.L.hs ∧ b.w.heap.size ≤ g ∧ some g ∉ owns6 gx tv ov kv wv sv)) → (x.L.hs.length ≤ x.c ∧ x.L.hs.length ≤ 1048576 ∧ (x.L.hs = [] ∨ ∃ g o, x.A = some ⟨g, o, none⟩ ∧ g < w2.heap.size ∧ ElsAt holE 2 w2 g o x.L.hs ∧ b.w.heap.size ≤ g ∧ some g ∉ owns6 gx v2 ov kv wv sv)) := fun y hy => by
    obtain ⟨h0, h1, h2⟩ := hy
    refine ⟨h0, h1, ?_⟩
    rcases h2 with h2 | ⟨g, o, e, hg, hat, hb, hn⟩
    · exact .inl h2
    · refine .inr ⟨g, o, e, Nat.lt_of_lt_of_le hg k.size, hat.kept k (fun hm => ?_), hb, hmem g hg hn⟩
      have hd' : tv.ownBlock = some g := by simpa using hm
      exact hn (by simp [owns6, hd'])
  exact {
    mt := hm
    mo := ⟨ownsRow_kept' h.mo.own k (fun c hc => hne 2 c (by decide) (by simp [owns6, hc])), h.mo.new, hm.only⟩
    ml := ⟨ownsRow_kept' h.ml.own k (fun c hc => hne 3 c (by decide) (by simp [owns6, hc])), h.ml.new, hm.only⟩
    mw := ⟨ownsRow_kept' h.mw.own k (fun c hc => hne 4 c (by decide) (by simp [owns6, hc])), h.mw.new, hm.only⟩
    ms := ⟨ownsRow_kept' h.ms.own k (fun c hc => hne 5 c (by decide) (by simp [owns6, hc])), h.ms.new, hm.only⟩
    lks := h.lks
    gx0 := h.gx0
    gxl := Nat.lt_of_lt_of_le h.gxl k.size
    ap := hap
    zn := hmem b.zb h.zl h.zn
    zl := Nat.lt_of_lt_of_le h.zl k.size
    zk := (k.block b.zb h.zl (fun hm => by
      have hd' : tv.ownBlock = some b.zb := by simpa using hm
      exact h.zn (by simp [owns6, hd']))).trans h.zk
    hs := fun y hy => hho y (h.hs y hy) }

theorem LdR.push_mo {b : Bs} {w w2 : World} {gx : Nat} {s : Sta} {tv ov kv wv sv v2 : Value} {lvs : List Lv} {x : Opn} (h : LdR b w gx s tv ov kv wv sv lvs) (h1 : w2.ownsRow 0 61 5 v2 (s.opens.length + 1) (encs opE (s.opens ++ [x]))) (hg : w.grownBy w2 ov.ownBlock) (ha : v2.ownBlock = ov.ownBlock ∨ v2.ownBlock = some w.heap.size) :
    LdR b w2 gx { s with opens := s.opens ++ [x] } tv v2 kv wv sv lvs := by
  have hm := h.mo.pushed h1 hg ha
  have k := only_own hg
  have hne : ∀ i c, i ≠ 2 → (owns6 gx tv ov kv wv sv)[i]? = some (some c) → c ∉ ov.ownBlock.toList := fun i c hi hc hd => by
    have hd' : ov.ownBlock = some c := by simpa using hd
    exact h.ap.ne (i := i) (j := 2) hc (by simp [owns6, hd']) hi rfl
  have hap : Dis (owns6 gx tv v2 kv wv sv) := by
    rcases ha with e | e
    · have : owns6 gx tv v2 kv wv sv = owns6 gx tv ov kv wv sv := by simp [owns6, e]
      rw [this]; exact h.ap
    · have : owns6 gx tv v2 kv wv sv = (owns6 gx tv ov kv wv sv).set 2 (some w.heap.size) := by simp [owns6, e]
      rw [this]; exact h.ap.set _ _ h.lt
  have hmem : ∀ g, g < w.heap.size → some g ∉ owns6 gx tv ov kv wv sv → some g ∉ owns6 gx tv v2 kv wv sv := fun g hl hn hm => by
    rcases ha with e | e
    · exact hn (by simpa [owns6, e] using hm)
    · simp only [owns6, e, List.mem_cons, List.not_mem_nil, or_false] at hm hn
      simp only [Option.some.injEq] at hm
      have : ¬ g = w.heap.size := by omega
      simp_all
  have hho : ∀ x : Lv, (x.L.hs.length ≤ x.c ∧ x.L.hs.length ≤ 1048576 ∧ (x.L.hs = [] ∨ ∃ g o, x.A = some ⟨g, o, none⟩ ∧ g < w.heap.size ∧ ElsAt holE 2 w g o x.L.hs ∧ b.w.heap.size ≤ g ∧ some g ∉ owns6 gx tv ov kv wv sv)) → (x.L.hs.length ≤ x.c ∧ x.L.hs.length ≤ 1048576 ∧ (x.L.hs = [] ∨ ∃ g o, x.A = some ⟨g, o, none⟩ ∧ g < w2.heap.size ∧ ElsAt holE 2 w2 g o x.L.hs ∧ b.w.heap.size ≤ g ∧ some g ∉ owns6 gx tv v2 kv wv sv)) := fun y hy => by
    obtain ⟨h0, h1, h2⟩ := hy
    refine ⟨h0, h1, ?_⟩
    rcases h2 with h2 | ⟨g, o, e, hg, hat, hb, hn⟩
    · exact .inl h2
    · refine .inr ⟨g, o, e, Nat.lt_of_lt_of_le hg k.size, hat.kept k (fun hm => ?_), hb, hmem g hg hn⟩
      have hd' : ov.ownBlock = some g := by simpa using hm
      exact hn (by simp [owns6, hd'])
  exact {
    mt := ⟨ownsRow_kept' h.mt.own k (fun c hc => hne 1 c (by decide) (by simp [owns6, hc])), h.mt.new, hm.only⟩
    mo := hm
    ml := ⟨ownsRow_kept' h.ml.own k (fun c hc => hne 3 c (by decide) (by simp [owns6, hc])), h.ml.new, hm.only⟩
    mw := ⟨ownsRow_kept' h.mw.own k (fun c hc => hne 4 c (by decide) (by simp [owns6, hc])), h.mw.new, hm.only⟩
    ms := ⟨ownsRow_kept' h.ms.own k (fun c hc => hne 5 c (by decide) (by simp [owns6, hc])), h.ms.new, hm.only⟩
    lks := h.lks
    gx0 := h.gx0
    gxl := Nat.lt_of_lt_of_le h.gxl k.size
    ap := hap
    zn := hmem b.zb h.zl h.zn
    zl := Nat.lt_of_lt_of_le h.zl k.size
    zk := (k.block b.zb h.zl (fun hm => by
      have hd' : ov.ownBlock = some b.zb := by simpa using hm
      exact h.zn (by simp [owns6, hd']))).trans h.zk
    hs := fun y hy => hho y (h.hs y hy) }

theorem LdR.push_ml {b : Bs} {w w2 : World} {gx : Nat} {s : Sta} {tv ov kv wv sv v2 : Value} {lvs : List Lv} {x : Lv} (h : LdR b w gx s tv ov kv wv sv lvs) (h1 : w2.ownsRow 0 45 7 v2 (lvs.length + 1) (encs lvE (lvs ++ [x]))) (hg : w.grownBy w2 kv.ownBlock) (ha : v2.ownBlock = kv.ownBlock ∨ v2.ownBlock = some w.heap.size) (hx : x.L.hs.length ≤ x.c ∧ x.L.hs.length ≤ 1048576 ∧ (x.L.hs = [] ∨ ∃ g o, x.A = some ⟨g, o, none⟩ ∧ g < w.heap.size ∧ ElsAt holE 2 w g o x.L.hs ∧ b.w.heap.size ≤ g ∧ some g ∉ owns6 gx tv ov kv wv sv)) :
    LdR b w2 gx { s with locks := s.locks ++ [x.L] } tv ov v2 wv sv (lvs ++ [x]) := by
  have hm := h.ml.pushed h1 hg ha
  have k := only_own hg
  have hne : ∀ i c, i ≠ 3 → (owns6 gx tv ov kv wv sv)[i]? = some (some c) → c ∉ kv.ownBlock.toList := fun i c hi hc hd => by
    have hd' : kv.ownBlock = some c := by simpa using hd
    exact h.ap.ne (i := i) (j := 3) hc (by simp [owns6, hd']) hi rfl
  have hap : Dis (owns6 gx tv ov v2 wv sv) := by
    rcases ha with e | e
    · have : owns6 gx tv ov v2 wv sv = owns6 gx tv ov kv wv sv := by simp [owns6, e]
      rw [this]; exact h.ap
    · have : owns6 gx tv ov v2 wv sv = (owns6 gx tv ov kv wv sv).set 3 (some w.heap.size) := by simp [owns6, e]
      rw [this]; exact h.ap.set _ _ h.lt
  have hmem : ∀ g, g < w.heap.size → some g ∉ owns6 gx tv ov kv wv sv → some g ∉ owns6 gx tv ov v2 wv sv := fun g hl hn hm => by
    rcases ha with e | e
    · exact hn (by simpa [owns6, e] using hm)
    · simp only [owns6, e, List.mem_cons, List.not_mem_nil, or_false] at hm hn
      simp only [Option.some.injEq] at hm
      have : ¬ g = w.heap.size := by omega
      simp_all
  have hho : ∀ x : Lv, (x.L.hs.length ≤ x.c ∧ x.L.hs.length ≤ 1048576 ∧ (x.L.hs = [] ∨ ∃ g o, x.A = some ⟨g, o, none⟩ ∧ g < w.heap.size ∧ ElsAt holE 2 w g o x.L.hs ∧ b.w.heap.size ≤ g ∧ some g ∉ owns6 gx tv ov kv wv sv)) → (x.L.hs.length ≤ x.c ∧ x.L.hs.length ≤ 1048576 ∧ (x.L.hs = [] ∨ ∃ g o, x.A = some ⟨g, o, none⟩ ∧ g < w2.heap.size ∧ ElsAt holE 2 w2 g o x.L.hs ∧ b.w.heap.size ≤ g ∧ some g ∉ owns6 gx tv ov v2 wv sv)) := fun y hy => by
    obtain ⟨h0, h1, h2⟩ := hy
    refine ⟨h0, h1, ?_⟩
    rcases h2 with h2 | ⟨g, o, e, hg, hat, hb, hn⟩
    · exact .inl h2
    · refine .inr ⟨g, o, e, Nat.lt_of_lt_of_le hg k.size, hat.kept k (fun hm => ?_), hb, hmem g hg hn⟩
      have hd' : kv.ownBlock = some g := by simpa using hm
      exact hn (by simp [owns6, hd'])
  exact {
    mt := ⟨ownsRow_kept' h.mt.own k (fun c hc => hne 1 c (by decide) (by simp [owns6, hc])), h.mt.new, hm.only⟩
    mo := ⟨ownsRow_kept' h.mo.own k (fun c hc => hne 2 c (by decide) (by simp [owns6, hc])), h.mo.new, hm.only⟩
    ml := hm
    mw := ⟨ownsRow_kept' h.mw.own k (fun c hc => hne 4 c (by decide) (by simp [owns6, hc])), h.mw.new, hm.only⟩
    ms := ⟨ownsRow_kept' h.ms.own k (fun c hc => hne 5 c (by decide) (by simp [owns6, hc])), h.ms.new, hm.only⟩
    lks := by rw [List.map_append, ← h.lks]; rfl
    gx0 := h.gx0
    gxl := Nat.lt_of_lt_of_le h.gxl k.size
    ap := hap
    zn := hmem b.zb h.zl h.zn
    zl := Nat.lt_of_lt_of_le h.zl k.size
    zk := (k.block b.zb h.zl (fun hm => by
      have hd' : kv.ownBlock = some b.zb := by simpa using hm
      exact h.zn (by simp [owns6, hd']))).trans h.zk
    hs := fun y hy => by
      rcases List.mem_append.1 hy with hy | hy
      · exact hho y (h.hs y hy)
      · rw [List.mem_singleton] at hy; subst hy; exact hho _ hx }

theorem LdR.push_mw {b : Bs} {w w2 : World} {gx : Nat} {s : Sta} {tv ov kv wv sv v2 : Value} {lvs : List Lv} {x : Wk} (h : LdR b w gx s tv ov kv wv sv lvs) (h1 : w2.ownsRow 0 50 8 v2 (s.works.length + 1) (encs wkE (s.works ++ [x]))) (hg : w.grownBy w2 wv.ownBlock) (ha : v2.ownBlock = wv.ownBlock ∨ v2.ownBlock = some w.heap.size) :
    LdR b w2 gx { s with works := s.works ++ [x] } tv ov kv v2 sv lvs := by
  have hm := h.mw.pushed h1 hg ha
  have k := only_own hg
  have hne : ∀ i c, i ≠ 4 → (owns6 gx tv ov kv wv sv)[i]? = some (some c) → c ∉ wv.ownBlock.toList := fun i c hi hc hd => by
    have hd' : wv.ownBlock = some c := by simpa using hd
    exact h.ap.ne (i := i) (j := 4) hc (by simp [owns6, hd']) hi rfl
  have hap : Dis (owns6 gx tv ov kv v2 sv) := by
    rcases ha with e | e
    · have : owns6 gx tv ov kv v2 sv = owns6 gx tv ov kv wv sv := by simp [owns6, e]
      rw [this]; exact h.ap
    · have : owns6 gx tv ov kv v2 sv = (owns6 gx tv ov kv wv sv).set 4 (some w.heap.size) := by simp [owns6, e]
      rw [this]; exact h.ap.set _ _ h.lt
  have hmem : ∀ g, g < w.heap.size → some g ∉ owns6 gx tv ov kv wv sv → some g ∉ owns6 gx tv ov kv v2 sv := fun g hl hn hm => by
    rcases ha with e | e
    · exact hn (by simpa [owns6, e] using hm)
    · simp only [owns6, e, List.mem_cons, List.not_mem_nil, or_false] at hm hn
      simp only [Option.some.injEq] at hm
      have : ¬ g = w.heap.size := by omega
      simp_all
  have hho : ∀ x : Lv, (x.L.hs.length ≤ x.c ∧ x.L.hs.length ≤ 1048576 ∧ (x.L.hs = [] ∨ ∃ g o, x.A = some ⟨g, o, none⟩ ∧ g < w.heap.size ∧ ElsAt holE 2 w g o x.L.hs ∧ b.w.heap.size ≤ g ∧ some g ∉ owns6 gx tv ov kv wv sv)) → (x.L.hs.length ≤ x.c ∧ x.L.hs.length ≤ 1048576 ∧ (x.L.hs = [] ∨ ∃ g o, x.A = some ⟨g, o, none⟩ ∧ g < w2.heap.size ∧ ElsAt holE 2 w2 g o x.L.hs ∧ b.w.heap.size ≤ g ∧ some g ∉ owns6 gx tv ov kv v2 sv)) := fun y hy => by
    obtain ⟨h0, h1, h2⟩ := hy
    refine ⟨h0, h1, ?_⟩
    rcases h2 with h2 | ⟨g, o, e, hg, hat, hb, hn⟩
    · exact .inl h2
    · refine .inr ⟨g, o, e, Nat.lt_of_lt_of_le hg k.size, hat.kept k (fun hm => ?_), hb, hmem g hg hn⟩
      have hd' : wv.ownBlock = some g := by simpa using hm
      exact hn (by simp [owns6, hd'])
  exact {
    mt := ⟨ownsRow_kept' h.mt.own k (fun c hc => hne 1 c (by decide) (by simp [owns6, hc])), h.mt.new, hm.only⟩
    mo := ⟨ownsRow_kept' h.mo.own k (fun c hc => hne 2 c (by decide) (by simp [owns6, hc])), h.mo.new, hm.only⟩
    ml := ⟨ownsRow_kept' h.ml.own k (fun c hc => hne 3 c (by decide) (by simp [owns6, hc])), h.ml.new, hm.only⟩
    mw := hm
    ms := ⟨ownsRow_kept' h.ms.own k (fun c hc => hne 5 c (by decide) (by simp [owns6, hc])), h.ms.new, hm.only⟩
    lks := h.lks
    gx0 := h.gx0
    gxl := Nat.lt_of_lt_of_le h.gxl k.size
    ap := hap
    zn := hmem b.zb h.zl h.zn
    zl := Nat.lt_of_lt_of_le h.zl k.size
    zk := (k.block b.zb h.zl (fun hm => by
      have hd' : wv.ownBlock = some b.zb := by simpa using hm
      exact h.zn (by simp [owns6, hd']))).trans h.zk
    hs := fun y hy => hho y (h.hs y hy) }

theorem LdR.push_ms {b : Bs} {w w2 : World} {gx : Nat} {s : Sta} {tv ov kv wv sv v2 : Value} {lvs : List Lv} {x : Sea} (h : LdR b w gx s tv ov kv wv sv lvs) (h1 : w2.ownsRow 0 56 21 v2 (s.seats.length + 1) (encs seaE (s.seats ++ [x]))) (hg : w.grownBy w2 sv.ownBlock) (ha : v2.ownBlock = sv.ownBlock ∨ v2.ownBlock = some w.heap.size) :
    LdR b w2 gx { s with seats := s.seats ++ [x] } tv ov kv wv v2 lvs := by
  have hm := h.ms.pushed h1 hg ha
  have k := only_own hg
  have hne : ∀ i c, i ≠ 5 → (owns6 gx tv ov kv wv sv)[i]? = some (some c) → c ∉ sv.ownBlock.toList := fun i c hi hc hd => by
    have hd' : sv.ownBlock = some c := by simpa using hd
    exact h.ap.ne (i := i) (j := 5) hc (by simp [owns6, hd']) hi rfl
  have hap : Dis (owns6 gx tv ov kv wv v2) := by
    rcases ha with e | e
    · have : owns6 gx tv ov kv wv v2 = owns6 gx tv ov kv wv sv := by simp [owns6, e]
      rw [this]; exact h.ap
    · have : owns6 gx tv ov kv wv v2 = (owns6 gx tv ov kv wv sv).set 5 (some w.heap.size) := by simp [owns6, e]
      rw [this]; exact h.ap.set _ _ h.lt
  have hmem : ∀ g, g < w.heap.size → some g ∉ owns6 gx tv ov kv wv sv → some g ∉ owns6 gx tv ov kv wv v2 := fun g hl hn hm => by
    rcases ha with e | e
    · exact hn (by simpa [owns6, e] using hm)
    · simp only [owns6, e, List.mem_cons, List.not_mem_nil, or_false] at hm hn
      simp only [Option.some.injEq] at hm
      have : ¬ g = w.heap.size := by omega
      simp_all
  have hho : ∀ x : Lv, (x.L.hs.length ≤ x.c ∧ x.L.hs.length ≤ 1048576 ∧ (x.L.hs = [] ∨ ∃ g o, x.A = some ⟨g, o, none⟩ ∧ g < w.heap.size ∧ ElsAt holE 2 w g o x.L.hs ∧ b.w.heap.size ≤ g ∧ some g ∉ owns6 gx tv ov kv wv sv)) → (x.L.hs.length ≤ x.c ∧ x.L.hs.length ≤ 1048576 ∧ (x.L.hs = [] ∨ ∃ g o, x.A = some ⟨g, o, none⟩ ∧ g < w2.heap.size ∧ ElsAt holE 2 w2 g o x.L.hs ∧ b.w.heap.size ≤ g ∧ some g ∉ owns6 gx tv ov kv wv v2)) := fun y hy => by
    obtain ⟨h0, h1, h2⟩ := hy
    refine ⟨h0, h1, ?_⟩
    rcases h2 with h2 | ⟨g, o, e, hg, hat, hb, hn⟩
    · exact .inl h2
    · refine .inr ⟨g, o, e, Nat.lt_of_lt_of_le hg k.size, hat.kept k (fun hm => ?_), hb, hmem g hg hn⟩
      have hd' : sv.ownBlock = some g := by simpa using hm
      exact hn (by simp [owns6, hd'])
  exact {
    mt := ⟨ownsRow_kept' h.mt.own k (fun c hc => hne 1 c (by decide) (by simp [owns6, hc])), h.mt.new, hm.only⟩
    mo := ⟨ownsRow_kept' h.mo.own k (fun c hc => hne 2 c (by decide) (by simp [owns6, hc])), h.mo.new, hm.only⟩
    ml := ⟨ownsRow_kept' h.ml.own k (fun c hc => hne 3 c (by decide) (by simp [owns6, hc])), h.ml.new, hm.only⟩
    mw := ⟨ownsRow_kept' h.mw.own k (fun c hc => hne 4 c (by decide) (by simp [owns6, hc])), h.mw.new, hm.only⟩
    ms := hm
    lks := h.lks
    gx0 := h.gx0
    gxl := Nat.lt_of_lt_of_le h.gxl k.size
    ap := hap
    zn := hmem b.zb h.zl h.zn
    zl := Nat.lt_of_lt_of_le h.zl k.size
    zk := (k.block b.zb h.zl (fun hm => by
      have hd' : sv.ownBlock = some b.zb := by simpa using hm
      exact h.zn (by simp [owns6, hd']))).trans h.zk
    hs := fun y hy => hho y (h.hs y hy) }

/-- The loader's cells. -/
def ldA (s : Sta) (tv ov kv wv sv : Value) (rk rv : ByteArray) (rg : Bool) (k v : Value) : Array Value := #[.int .u32 s.boot, .int .u32 s.next, tv, ov, kv, wv, sv, .string rk, .string rv, .bool rg, k, v]
/-- What a row's meaning leaves. -/
def LdAns (b : Bs) (gx : Nat) (s : Sta) (w : World) : Prop :=
  ∃ tv ov kv wv sv lvs rk rv rg k v, LdR b w gx s tv ov kv wv sv lvs ∧ Blk w gx 68 (ldA s tv ov kv wv sv rk rv rg k v)

/-- Two readers, of a row's key and of its value, made since h0. -/
structure Two (h0 : Nat) (w : World) (kp kg vp vg : Nat) (kb vb : List UInt8 × Nat) : Prop where
  k : Rd w kp kg kb.1 kb.2
  v : Rd w vp vg vb.1 vb.2
  a : h0 ≤ kp
  b : h0 ≤ kg
  c : h0 ≤ vp
  d : h0 ≤ vg
  e : kp ≠ vp
  f : kp ≠ vg
  g : vp ≠ kg
theorem Two.readK {h0 : Nat} {w w2 : World} {kp kg vp vg : Nat} {kb vb kb2 : List UInt8 × Nat} (h : Two h0 w kp kg vp vg kb vb) (r : Rd w2 kp kg kb2.1 kb2.2) (k : Only [kp] w w2) : Two h0 w2 kp kg vp vg kb2 vb :=
  { h with k := r, v := h.v.kept k (by simp; exact fun e => h.e e.symm) (by simp; exact fun e => h.f e.symm) }
theorem Two.readV {h0 : Nat} {w w2 : World} {kp kg vp vg : Nat} {kb vb vb2 : List UInt8 × Nat} (h : Two h0 w kp kg vp vg kb vb) (r : Rd w2 vp vg vb2.1 vb2.2) (k : Only [vp] w w2) : Two h0 w2 kp kg vp vg kb vb2 :=
  { h with v := r, k := h.k.kept k (by simp; exact h.e) (by simp; exact fun e => h.g e.symm) }

end Go.Proofs.YtalkhhjfplahkaaGreat
