/- Joined: Str7, Pg7, Zero7, Right7, Rr7, Cell7, Body7, Pages7. -/
import Derived.Test.YtmelaiefbpdifaaGreatDoorGGh
import Derived.Deep.Slices
import Derived.Deep.Fields
import Derived.ProofKit
import Derived.Deep.WholeRow
import Derived.Deep.MidRow
import Derived.Laws.BitsAllLaws
import Derived.Lib.BufferWrite
import Derived.Lib.Hide
import Derived.Deep.RegionHeld3
import Derived.Deep.AppendLies
import Derived.Laws.CopyRow
import Derived.StillTailTactics
import Derived.Test.YtmelaiefbpdifaaGreatDoorChecked
import Derived.WalkKit
import Derived.BigQuiet
import Derived.Laws.CopyOwn
import Derived.Lib.SliceRun
import Derived.Stop.BytesEq
import Derived.Deep.DeepMust
/- What stage05's chain lacks of stage 7's ground. -/
namespace Go.Proofs.YtmelaiefbpdifaaGreatDoor
open Go.RowKit
theorem str_ne {a b : List UInt8} (h : ¬ strOf a = strOf b) : ((strOf a).toList == (strOf b).toList) = false := by
 rw [beq_toList, beq_eq_false_iff_ne]
 exact fun e => h (by rw [e])
theorem Mine.from {α : Type} {enc : α → List Value} {k : Nat} {e : TypeId} {w w0 w1 : World} {v : Value} {l : List α} (kk : Only [] w w0) (h : Mine enc k e w0 w1 v l) : Mine enc k e w w1 v l :=
 ⟨h.own, fun g hg => Nat.le_trans kk.size (h.new g hg), kk.trans h.only⟩
theorem Mine.shape {α : Type} {enc : α → List Value} {k : Nat} {e : TypeId} {w w1 : World} {v : Value} {l : List α} (hk : ∀ x, (enc x).length = k) (h : Mine enc k e w w1 v l) :
  ∃ A c, v = .slice A l.length c ∧ Els enc k w1 A l ∧ l.length ≤ c ∧ (∀ a, A = some a → w.heap.size ≤ a.block) ∧ (v = .slice none 0 0 ∨ ∃ g c, v = .slice (some ⟨g, 0, none⟩) l.length c) := by
 rcases id h.own.2 with ⟨rfl, h0⟩ | ⟨g, cap, cur, rfl, hb, hg, hn, r⟩
 ·have hl : l = [] := List.eq_nil_of_length_eq_zero h0
  subst hl
  exact ⟨none, 0, rfl, .inl rfl, Nat.le_refl _, by simp, .inl rfl⟩
 ·refine ⟨_, _, rfl, ?_, hn, fun a ha => ?_, .inr ⟨g, cap, rfl⟩⟩
  ·by_cases h0 : l = []
   ·exact .inl h0
   ·refine .inr ⟨g, 0, rfl, (h.own.lt g rfl).2, fun i hi j u hu => ?_⟩
    have q := h.own.cells rfl _ _ (encs_at hk l i hi j u hu)
    rw [addr_add, Nat.zero_add] at q
    rw [Nat.zero_add]
    exact q
  ·injection ha with ha
   subst ha
   exact h.new g rfl
end Go.Proofs.YtmelaiefbpdifaaGreatDoor
/- Objects of pages, as plain lists: what is one, its bytes, the pages of bytes; where its bytes end; what leads from one to another one. -/
namespace Go.Proofs.YtmelaiefbpdifaaGreatDoor.Pgs
structure Pg where
 n : Int
 d : List UInt8
instance : Inhabited Pg := ⟨⟨0, []⟩⟩
def allZ (l : List UInt8) : Bool := l.all (· == 0)
def zs (n : Nat) : List UInt8 := List.replicate n 0
theorem zs_length (n : Nat) : (zs n).length = n := List.length_replicate
theorem allZ_zs (n : Nat) : allZ (zs n) = true := by simp [allZ, zs]
theorem eq_zs {l : List UInt8} (h : allZ l = true) : l = zs l.length := by
 unfold allZ at h
 rw [List.all_eq_true] at h
 exact List.eq_replicate_iff.2 ⟨rfl, fun b hb => by simpa using h b hb⟩
theorem eq_zs32 {l : List UInt8} (h : allZ l = true) (hl : l.length = 32) : l = zs 32 := by rw [eq_zs h, hl]
def okP : Int → List Pg → Bool
 | _, [] => true
 | last, p :: r => decide (last < p.n) && (decide (p.n < 32) && (decide (p.d.length = 32) && (!allZ p.d && okP p.n r)))
def right (o : List Pg) : Bool := okP (-1) o
theorem okP_cons {last : Int} {p : Pg} {r : List Pg} : okP last (p :: r) = true ↔ last < p.n ∧ p.n < 32 ∧ p.d.length = 32 ∧ allZ p.d = false ∧ okP p.n r = true := by
 simp [okP]
def top : Int → List Pg → Int
 | l, [] => l
 | _, p :: r => top p.n r
theorem top_append : ∀ (a b : List Pg) (l : Int), top l (a ++ b) = top (top l a) b
 | [], _, _ => rfl
 | p :: a, b, l => by rw [List.cons_append, top, top, top_append a b]
theorem okP_append : ∀ (a b : List Pg) (l : Int), okP l (a ++ b) = (okP l a && okP (top l a) b)
 | [], b, l => by simp [okP, top]
 | p :: a, b, l => by
  rw [List.cons_append, okP, okP, okP_append a b, top]
  simp [Bool.and_assoc]
theorem okP_len : ∀ (o : List Pg) (l : Int), okP l o = true → l < 32 → (o.length : Int) ≤ 31 - l
 | [], l, _, h => by simp; omega
 | p :: r, l, h, _ => by
  obtain ⟨h1, h2, _, _, h5⟩ := okP_cons.1 h
  have := okP_len r p.n h5 h2
  rw [List.length_cons]
  omega
theorem right_len {o : List Pg} (h : right o = true) : o.length ≤ 32 := by
 have := okP_len o (-1) h (by decide)
 omega
theorem okP_mem : ∀ (o : List Pg) (l : Int), okP l o = true → ∀ p ∈ o, l < p.n ∧ p.n < 32 ∧ p.d.length = 32 ∧ allZ p.d = false
 | [], _, _, p, hp => by simp at hp
 | q :: r, l, h, p, hp => by
  obtain ⟨h1, h2, h3, h4, h5⟩ := okP_cons.1 h
  rcases List.mem_cons.1 hp with rfl | hp
  ·exact ⟨h1, h2, h3, h4⟩
  ·obtain ⟨k1, k2⟩ := okP_mem r q.n h5 p hp
   exact ⟨by omega, k2⟩
def find : List Pg → Nat → List UInt8
 | [], _ => zs 32
 | p :: r, k => if p.n = (k : Int) then p.d else find r k
theorem find_low : ∀ (o : List Pg) (l : Int) (k : Nat), okP l o = true → (k : Int) ≤ l → find o k = zs 32
 | [], _, _, _, _ => rfl
 | p :: r, l, k, h, hk => by
  obtain ⟨h1, h2, h3, h4, h5⟩ := okP_cons.1 h
  rw [find, if_neg (by omega)]
  exact find_low r p.n k h5 (by omega)
theorem find_len : ∀ (o : List Pg) (l : Int) (k : Nat), okP l o = true → (find o k).length = 32
 | [], _, _, _ => zs_length 32
 | p :: r, l, k, h => by
  obtain ⟨h1, h2, h3, h4, h5⟩ := okP_cons.1 h
  rw [find]
  split
  ·exact h3
  ·exact find_len r p.n k h5
theorem find_mem : ∀ (o : List Pg) (k : Nat), find o k = zs 32 ∨ ∃ p ∈ o, p.n = (k : Int) ∧ find o k = p.d
 | [], _ => .inl rfl
 | p :: r, k => by
  rw [find]
  split
  ·rename_i h; exact .inr ⟨p, by simp, h, rfl⟩
  ·rcases find_mem r k with h | ⟨q, hq, h⟩
   ·exact .inl h
   ·exact .inr ⟨q, by simp [hq], h⟩
theorem find_snoc : ∀ (a : List Pg) (p : Pg) (l : Int) (k : Nat), okP l (a ++ [p]) = true → find (a ++ [p]) k = if p.n = (k : Int) then p.d else find a k
 | [], p, l, k, _ => rfl
 | q :: a, p, l, k, h => by
  obtain ⟨h1, h2, h3, h4, h5⟩ := okP_cons.1 h
  have hp := (okP_mem _ _ h5 p (by simp)).1
  rw [List.cons_append, find, find_snoc a p q.n k h5, find]
  by_cases hq : q.n = (k : Int)
  ·rw [if_pos hq, if_pos hq, if_neg (by omega)]
  ·rw [if_neg hq, if_neg hq]
theorem okP_ext : ∀ (o o' : List Pg) (l : Int), -1 ≤ l → okP l o = true → okP l o' = true → (∀ k : Nat, l < (k : Int) → find o k = find o' k) → o = o'
 | [], [], _, _, _, _, _ => rfl
 | [], q :: r', l, hl, _, h', he => by
  obtain ⟨h1, h2, h3, h4, h5⟩ := okP_cons.1 h'
  have := he q.n.toNat (by omega)
  rw [find, find, if_pos (by omega)] at this
  rw [← this, allZ_zs] at h4
  cases h4
 | p :: r, [], l, hl, h, _, he => by
  obtain ⟨h1, h2, h3, h4, h5⟩ := okP_cons.1 h
  have := he p.n.toNat (by omega)
  rw [find, find, if_pos (by omega)] at this
  rw [this, allZ_zs] at h4
  cases h4
 | p :: r, q :: r', l, hl, h, h', he => by
  obtain ⟨h1, h2, h3, h4, h5⟩ := okP_cons.1 h
  obtain ⟨g1, g2, g3, g4, g5⟩ := okP_cons.1 h'
  have hpq : p.n = q.n := by
   apply Decidable.byContradiction
   intro hne
   rcases Int.lt_or_gt_of_ne hne with hlt | hlt
   ·have := he p.n.toNat (by omega)
    rw [find, if_pos (by omega), find, if_neg (by omega), find_low r' q.n _ g5 (by omega)] at this
    rw [this, allZ_zs] at h4
    cases h4
   ·have := he q.n.toNat (by omega)
    rw [find, if_neg (by omega), find, if_pos (by omega), find_low r p.n _ h5 (by omega)] at this
    rw [← this, allZ_zs] at g4
    cases g4
  have hd : p.d = q.d := by
   have := he p.n.toNat (by omega)
   rw [find, if_pos (by omega), find, if_pos (by omega)] at this
   exact this
  have hp : p = q := by
   obtain ⟨a, b⟩ := p
   obtain ⟨c, d⟩ := q
   simp only at hpq hd
   rw [hpq, hd]
  subst hp
  rw [okP_ext r r' p.n (by omega) h5 g5 (fun k hk => by
   have := he k (by omega)
   rw [find, if_neg (by omega), find, if_neg (by omega)] at this
   exact this)]
theorem right_ext {o o' : List Pg} (h : right o = true) (h' : right o' = true) (he : ∀ k, k < 32 → find o k = find o' k) : o = o' := by
 refine okP_ext o o' (-1) (by decide) h h' (fun k _ => ?_)
 by_cases hk : k < 32
 ·exact he k hk
 ·have none : ∀ x : List Pg, right x = true → find x k = zs 32 := fun x hx => by
   rcases find_mem x k with h0 | ⟨p, hp, h1, _⟩
   ·exact h0
   ·have := (okP_mem x (-1) hx p hp).2.1
    omega
  rw [none o h, none o' h']
def book (o : List Pg) : List (List UInt8) := (List.range 32).map (find o)
def body (o : List Pg) : List UInt8 := (book o).flatten
theorem book_len (o : List Pg) : (book o).length = 32 := by simp [book]
theorem book_fine {o : List Pg} (h : right o = true) : ∀ b ∈ book o, b.length = 32 := by
 intro b hb
 simp only [book, List.mem_map] at hb
 obtain ⟨k, _, rfl⟩ := hb
 exact find_len o (-1) k h
theorem body_len {o : List Pg} (h : right o = true) : (body o).length = 1024 := by
 unfold body
 rw [flat_len 32 _ (book_fine h), book_len]
theorem book_get (o : List Pg) {k : Nat} (hk : k < 32) : (book o)[k]? = some (find o k) := by
 simp [book, hk]
theorem body_nil : body [] = zs 1024 := by decide +kernel
def chunk (b : List UInt8) (k : Nat) : List UInt8 := (b.drop (k * 32)).take 32
theorem chunk_len {b : List UInt8} (h : b.length = 1024) {k : Nat} (hk : k < 32) : (chunk b k).length = 32 := by
 unfold chunk
 rw [List.length_take, List.length_drop]
 omega
theorem flat_chunk : ∀ (L : List (List UInt8)) (k : Nat) (b : List UInt8), (∀ b ∈ L, b.length = 32) → L[k]? = some b → (L.flatten.drop (k * 32)).take 32 = b
 | [], k, b, _, hk => by simp at hk
 | x :: L, 0, b, h, hk => by
  simp only [List.getElem?_cons_zero, Option.some.injEq] at hk
  subst hk
  rw [Nat.zero_mul, List.drop_zero, List.flatten_cons, List.take_append_of_le_length (by rw [h x (by simp)]; exact Nat.le_refl _)]
  exact List.take_of_length_le (by rw [h x (by simp)]; exact Nat.le_refl _)
 | x :: L, k + 1, b, h, hk => by
  rw [List.getElem?_cons_succ] at hk
  have hx := h x (by simp)
  rw [List.flatten_cons, List.drop_append, List.drop_of_length_le (by rw [hx]; omega), List.nil_append, hx]
  rw [show (k + 1) * 32 - 32 = k * 32 by omega]
  exact flat_chunk L k b (fun y hy => h y (by simp [hy])) hk
theorem chunk_body {o : List Pg} (h : right o = true) {k : Nat} (hk : k < 32) : chunk (body o) k = find o k :=
 flat_chunk _ k _ (book_fine h) (book_get o hk)
def pagesF (f : Nat → List UInt8) : Nat → List Pg
 | 0 => []
 | k + 1 => if allZ (f k) then pagesF f k else pagesF f k ++ [⟨k, f k⟩]
def pages (b : List UInt8) : List Pg := pagesF (chunk b) 32
theorem pagesF_len (f : Nat → List UInt8) : ∀ k, (pagesF f k).length ≤ k
 | 0 => Nat.le_refl _
 | k + 1 => by
  have := pagesF_len f k
  rw [pagesF]
  split
  ·omega
  ·simp; omega
theorem pagesF_top (f : Nat → List UInt8) : ∀ k, top (-1) (pagesF f k) < (k : Int)
 | 0 => by rw [pagesF, top]; omega
 | k + 1 => by
  have := pagesF_top f k
  rw [pagesF]
  split
  ·omega
  ·rw [top_append, top, top]
   simp only
   omega
theorem pagesF_right (f : Nat → List UInt8) : ∀ k, k ≤ 32 → (∀ j, j < k → (f j).length = 32) → right (pagesF f k) = true
 | 0, _, _ => rfl
 | k + 1, hk, h => by
  have ih := pagesF_right f k (by omega) (fun j hj => h j (by omega))
  rw [pagesF]
  split
  ·exact ih
  ·rename_i hz
   unfold right at ih ⊢
   rw [okP_append, ih, Bool.true_and, okP_cons]
   exact ⟨pagesF_top f k, by simp only; omega, h k (by omega), by simpa using hz, rfl⟩
theorem pagesF_find (f : Nat → List UInt8) (j : Nat) : ∀ k, k ≤ 32 → (∀ j, j < k → (f j).length = 32) → find (pagesF f k) j = if j < k then f j else zs 32
 | 0, _, _ => rfl
 | k + 1, hk, h => by
  have ih := pagesF_find f j k (by omega) (fun j hj => h j (by omega))
  have hr := pagesF_right f (k + 1) hk h
  rw [pagesF] at hr ⊢
  by_cases hz : allZ (f k) = true
  ·rw [if_pos hz, ih]
   by_cases hjk : j = k
   ·subst hjk
    rw [if_neg (by omega), if_pos (by omega)]
    exact (eq_zs32 hz (h j (by omega))).symm
   ·by_cases hlt : j < k
    ·rw [if_pos hlt, if_pos (by omega)]
    ·rw [if_neg hlt, if_neg (by omega)]
  ·rw [if_neg hz] at hr ⊢
   rw [find_snoc _ _ (-1) j hr, ih]
   by_cases hjk : j = k
   ·subst hjk
    rw [if_pos rfl, if_pos (by omega)]
   ·rw [if_neg (by simp only; omega)]
    by_cases hlt : j < k
    ·rw [if_pos hlt, if_pos (by omega)]
    ·rw [if_neg hlt, if_neg (by omega)]
theorem pages_right {b : List UInt8} (h : b.length = 1024) : right (pages b) = true := pagesF_right _ 32 (Nat.le_refl _) (fun _ hj => chunk_len h hj)
theorem pages_find {b : List UInt8} (h : b.length = 1024) {j : Nat} (hj : j < 32) : find (pages b) j = chunk b j := by
 have := pagesF_find (chunk b) j 32 (Nat.le_refl _) (fun _ hj => chunk_len h hj)
 rw [if_pos hj] at this
 exact this
theorem pages_body {o : List Pg} (h : right o = true) : pages (body o) = o :=
 right_ext (pages_right (body_len h)) h fun k hk => by rw [pages_find (body_len h) hk, chunk_body h hk]
def lay (b : List UInt8) (off : Nat) (x : List UInt8) : List UInt8 := b.take off ++ (x ++ b.drop (off + x.length))
theorem lay_len {b x : List UInt8} {off : Nat} (h : off + x.length ≤ b.length) : (lay b off x).length = b.length := by
 simp only [lay, List.length_append, List.length_take, List.length_drop]
 omega
theorem body_snoc {o : List Pg} {p : Pg} (h : right (o ++ [p]) = true) : body (o ++ [p]) = lay (body o) (p.n.toNat * 32) p.d := by
 have hp := okP_mem _ _ h p (by simp)
 have ho : right o = true := by
  unfold right at h ⊢
  rw [okP_append, Bool.and_eq_true] at h
  exact h.1
 have e : book (o ++ [p]) = (book o).set p.n.toNat p.d := by
  apply List.ext_getElem?
  intro i
  rw [List.getElem?_set, book_len]
  by_cases hi : i < 32
  ·rw [book_get _ hi, find_snoc o p (-1) i h]
   by_cases hpi : p.n.toNat = i
   ·rw [if_pos (by omega), if_pos hpi, if_pos (by omega)]
   ·rw [if_neg (by omega), if_neg hpi, book_get _ hi]
  ·rw [List.getElem?_eq_none (by rw [book_len]; omega), if_neg (by omega), List.getElem?_eq_none (by rw [book_len]; omega)]
 unfold body lay
 rw [e, flat_set 32 _ _ _ (book_fine ho) (by rw [book_len]; omega) hp.2.2.1, hp.2.2.1]
theorem right_take {o : List Pg} (h : right o = true) (k : Nat) : right (o.take k) = true := by
 unfold right at h ⊢
 rw [← List.take_append_drop k o, okP_append, Bool.and_eq_true] at h
 exact h.1
def IsEnd (b : List UInt8) (n : Nat) : Prop := n ≤ b.length ∧ (∀ i, n ≤ i → b.getD i 0 = 0) ∧ (n = 0 ∨ b.getD (n - 1) 0 ≠ 0)
def rtrim (l : List UInt8) : List UInt8 := (l.reverse.dropWhile (· == 0)).reverse
theorem rtrim_snoc (l : List UInt8) (x : UInt8) : rtrim (l ++ [x]) = if x = 0 then rtrim l else l ++ [x] := by
 unfold rtrim
 rw [List.reverse_append, List.reverse_singleton, List.singleton_append, List.dropWhile_cons]
 by_cases h : x = 0
 ·subst h; simp
 ·have : (x == 0) = false := by simpa using h
  rw [this, if_neg h]
  simp
theorem rtrim_end (l : List UInt8) : IsEnd l (rtrim l).length := by
 refine snoc_ind (p := fun l => IsEnd l (rtrim l).length) ⟨Nat.le_refl _, fun i _ => by simp, .inl rfl⟩ (fun l x ih => ?_) l
 obtain ⟨h1, h2, h3⟩ := ih
 rw [rtrim_snoc]
 split
 ·rename_i hx
  subst hx
  refine ⟨by simp; omega, fun i hi => ?_, ?_⟩
  ·by_cases hil : i < l.length
   ·rw [List.getD_eq_getElem?_getD, List.getElem?_append_left hil, ← List.getD_eq_getElem?_getD]
    exact h2 i hi
   ·rw [List.getD_eq_getElem?_getD, List.getElem?_append_right (by omega)]
    cases hj : i - l.length with
    | zero => rfl
    | succ j => rfl
  ·rcases h3 with h3 | h3
   ·exact .inl h3
   ·refine .inr ?_
    by_cases hn : (rtrim l).length = 0
    ·intro _
     have := h3
     rw [hn] at this
     by_cases hl : 0 < l.length
     ·exact this (h2 0 (by omega))
     ·have : l = [] := List.eq_nil_of_length_eq_zero (by omega)
      subst this
      simp at h3
    ·rw [List.getD_eq_getElem?_getD, List.getElem?_append_left (by omega), ← List.getD_eq_getElem?_getD]
     exact h3
 ·rename_i hx
  refine ⟨Nat.le_refl _, fun i hi => ?_, .inr ?_⟩
  ·rw [List.getD_eq_getElem?_getD, List.getElem?_eq_none hi]; rfl
  ·rw [List.getD_eq_getElem?_getD, List.length_append, List.length_singleton, Nat.add_sub_cancel, List.getElem?_append_right (Nat.le_refl _), Nat.sub_self]
   exact hx
theorem rtrim_some {l : List UInt8} (h : allZ l = false) : rtrim l ≠ [] := by
 intro h0
 have e := rtrim_end l
 rw [h0] at e
 have : allZ l = true := by
  unfold allZ
  rw [List.all_eq_true]
  intro x hx
  obtain ⟨i, hi, rfl⟩ := List.getElem_of_mem hx
  have := e.2.1 i (Nat.zero_le _)
  rw [List.getD_eq_getElem?_getD, List.getElem?_eq_getElem hi] at this
  simpa using this
 rw [h] at this
 cases this
theorem zs_getD (n i : Nat) : (zs n).getD i 0 = 0 := by
 unfold zs
 rw [List.getD_eq_getElem?_getD, List.getElem?_replicate]
 split <;> rfl
theorem length_nil : IsEnd (body []) 0 := by
 rw [body_nil]
 exact ⟨Nat.zero_le _, fun i _ => zs_getD _ _, .inl rfl⟩
def cutB (b : List UInt8) (m : Nat) : List UInt8 := b.take m ++ zs (1024 - m)
theorem cutB_len {b : List UInt8} (h : b.length = 1024) {m : Nat} (hm : m ≤ 1024) : (cutB b m).length = 1024 := by
 simp only [cutB, List.length_append, List.length_take, zs_length]
 omega
def keyF (f : List UInt8) (n : Nat) : List UInt8 := f ++ [0, UInt8.ofNat n]
def chgF (fl : List UInt8) (f g : Nat → List UInt8) : Nat → List Ch
 | 0 => []
 | k + 1 => if g k = f k then chgF fl f g k else if allZ (g k) then chgF fl f g k ++ [⟨keyF fl k, [], true⟩] else chgF fl f g k ++ [⟨keyF fl k, g k, false⟩]
theorem chgF_len (fl : List UInt8) (f g : Nat → List UInt8) : ∀ k, (chgF fl f g k).length ≤ k
 | 0 => Nat.le_refl _
 | k + 1 => by
  have := chgF_len fl f g k
  rw [chgF]
  split
  ·omega
  ·split <;> simp <;> omega
end Go.Proofs.YtmelaiefbpdifaaGreatDoor.Pgs
/- Noughts: strings.Trim, TrimRight of noughts; zero; the document's Noughts. -/
namespace Go.Proofs.YtmelaiefbpdifaaGreatDoor.Pgs
open Go.RowKit
theorem rtrim_length (l : List UInt8) : (rtrim l).length ≤ l.length := (rtrim_end l).1
theorem snoc_size (q : List UInt8) (x : UInt8) : ((strOf (q ++ [x])).size : Int) = (q.length : Int) + 1 := by rw [strOf_size]; simp
theorem snoc_index (q : List UInt8) (x : UInt8) (i : Int) (hi : i = q.length) :
  ∀ W : World, (Instr.index 9 (.string (strOf (q ++ [x]))) (.int .i64 i)).run Tryz.prog W = .ok (byteV x) W := by
 have := index_strOf (P := Tryz.prog) 9 Tryz.underlying9 (q ++ [x]) q.length i .i64 hi (by simp)
 intro W
 rw [this W]
 simp [byteV, List.getD]
theorem snoc_upto (q : List UInt8) (x : UInt8) (i : Int) (hi : i = q.length) :
  ∀ W : World, (Instr.slice 9 (.string (strOf (q ++ [x]))) none (some (.int .i64 i)) none).run Tryz.prog W = .ok (.string (strOf q)) W := by
 have := upto_strOf (P := Tryz.prog) 9 Tryz.underlying9 (q ++ [x]) q.length i .i64 hi (by simp)
 intro W
 rw [this W]
 simp
theorem byte_nz {x : UInt8} (h : ¬ x = 0) : ((x.toNat : Int) == 0) = false := by
 rw [beq_eq_false_iff_ne]
 intro e
 exact h (UInt8.toNat_inj.1 (by simpa using e))
set_option maxRecDepth 100000 in
theorem trimRight_any (w : World) (l : List UInt8) (hl : l.length ≤ 1048576) :
  Calls Tryz.prog 177 #[.string (strOf l), .int .u8 0] w fun e w' => e = .returned (.string (strOf (rtrim l))) ∧ w' = w := by
 go_enter Tryz.func177, Tryz.ntmps177
 go_wp2_with fail
 go_loopw [0] (fun s wr => ∃ r : List UInt8, s = .string (strOf r) ∧ rtrim r = rtrim l ∧ r.length ≤ l.length ∧ wr = w) (fun s _ => strLen s)
 case atStart => exact ⟨l, rfl, rfl, Nat.le_refl _, rfl⟩
 case round =>
  obtain ⟨r, rfl, hr, hrl, rfl⟩ := hrel
  have HR := Lib.hid hr
  clear hr
  rcases List.eq_nil_or_concat r with rfl | ⟨q, x, rfl⟩
  ·have h0 : strOf [] = ⟨#[]⟩ := rfl
   rw [h0]
   go_wp2
   go_ret
   exact ⟨by rw [← HR.out]; rfl, rfl⟩
  ·rw [List.concat_eq_append] at *
   have hql : (q.length : Int) + 1 ≤ 1048576 := by simp at hrl; omega
   have hql2 : q.length ≤ l.length := by simp at hrl; omega
   have hsz := snoc_size q x
   have hsz' := strOf_size q
   have hix := snoc_index q x _ rfl
   have hup := snoc_upto q x _ rfl
   have hrx := rtrim_snoc q x
   replace hrx := Lib.hid hrx
   generalize hQ : strOf (q ++ [x]) = Q at *
   replace hQ := Lib.hid hQ
   unfold byteV at hix
   by_cases hx : x = 0
   ·have hz : (x.toNat : Int) = 0 := by rw [hx]; rfl
    have hnext : rtrim q = rtrim l := by have h1 := hrx.out; rw [if_pos hx] at h1; rw [← h1]; exact HR.out
    have hqs : strLen (.string (strOf q)) < strLen (.string Q) := by simp only [strLen]; omega
    rw [hz] at hix
    replace hnext := Lib.hid hnext
    replace hx := Lib.hid hx
    clear hrl
    go_wp2_with fail
    go_roundw
    case rel => exact ⟨q, rfl, hnext.out, hql2, trivial⟩
    case measure => exact hqs
   ·have hz := byte_nz hx
    have hans : rtrim l = q ++ [x] := by have h1 := hrx.out; rw [if_neg hx] at h1; rw [← h1]; exact HR.out.symm
    replace hans := Lib.hid hans
    generalize (x.toNat : Int) = xi at *
    replace hx := Lib.hid hx
    clear hrl
    go_wp2
    go_ret
    exact ⟨by rw [hans.out, hQ.out]; rfl, rfl⟩
def ltrim (l : List UInt8) : List UInt8 := l.dropWhile (· == 0)
theorem ltrim_cons (x : UInt8) (l : List UInt8) : ltrim (x :: l) = if x = 0 then ltrim l else x :: l := by
 unfold ltrim
 rw [List.dropWhile_cons]
 by_cases h : x = 0
 ·subst h; simp
 ·have : (x == 0) = false := by simpa using h
  rw [this, if_neg h]
  simp
theorem cons_size (q : List UInt8) (x : UInt8) : ((strOf (x :: q)).size : Int) = (q.length : Int) + 1 := by rw [strOf_size]; simp
theorem cons_index (q : List UInt8) (x : UInt8) :
  ∀ W : World, (Instr.index 9 (.string (strOf (x :: q))) (.int .i64 0)).run Tryz.prog W = .ok (byteV x) W := by
 have := index_strOf (P := Tryz.prog) 9 Tryz.underlying9 (x :: q) 0 0 .i64 rfl (by simp)
 intro W
 rw [this W]
 simp [byteV, List.getD]
theorem cons_from (q : List UInt8) (x : UInt8) :
  ∀ W : World, (Instr.slice 9 (.string (strOf (x :: q))) (some (.int .i64 1)) none none).run Tryz.prog W = .ok (.string (strOf q)) W := by
 have := from_strOf (P := Tryz.prog) 9 Tryz.underlying9 (x :: q) 1 1 .i64 rfl (by simp)
 intro W
 rw [this W]
 simp
set_option maxRecDepth 100000 in
theorem trimLeft_any (w : World) (l : List UInt8) (hl : l.length ≤ 1048576) :
  Calls Tryz.prog 176 #[.string (strOf l), .int .u8 0] w fun e w' => e = .returned (.string (strOf (ltrim l))) ∧ w' = w := by
 go_enter Tryz.func176, Tryz.ntmps176
 go_wp2_with fail
 go_loopw [0] (fun s wr => ∃ r : List UInt8, s = .string (strOf r) ∧ ltrim r = ltrim l ∧ r.length ≤ l.length ∧ wr = w) (fun s _ => strLen s)
 case atStart => exact ⟨l, rfl, rfl, Nat.le_refl _, rfl⟩
 case round =>
  obtain ⟨r, rfl, hr, hrl, rfl⟩ := hrel
  have HR := Lib.hid hr
  clear hr
  cases r with
  | nil =>
   have h0 : strOf [] = ⟨#[]⟩ := rfl
   rw [h0]
   go_wp2
   go_ret
   exact ⟨by rw [← HR.out]; rfl, rfl⟩
  | cons x q =>
   have hql : (q.length : Int) + 1 ≤ 1048576 := by simp at hrl; omega
   have hql2 : q.length ≤ l.length := by simp at hrl; omega
   have hsz := cons_size q x
   have hsz' := strOf_size q
   have hix := cons_index q x
   have hup := cons_from q x
   have hrx := ltrim_cons x q
   replace hrx := Lib.hid hrx
   generalize hQ : strOf (x :: q) = Q at *
   replace hQ := Lib.hid hQ
   unfold byteV at hix
   by_cases hx : x = 0
   ·have hz : (x.toNat : Int) = 0 := by rw [hx]; rfl
    have hnext : ltrim q = ltrim l := by have h1 := hrx.out; rw [if_pos hx] at h1; rw [← h1]; exact HR.out
    have hqs : strLen (.string (strOf q)) < strLen (.string Q) := by simp only [strLen]; omega
    rw [hz] at hix
    replace hnext := Lib.hid hnext
    replace hx := Lib.hid hx
    clear hrl
    go_wp2_with fail
    go_roundw
    case rel => exact ⟨q, rfl, hnext.out, hql2, trivial⟩
    case measure => exact hqs
   ·have hz := byte_nz hx
    have hans : ltrim l = x :: q := by have h1 := hrx.out; rw [if_neg hx] at h1; rw [← h1]; exact HR.out.symm
    replace hans := Lib.hid hans
    generalize (x.toNat : Int) = xi at *
    replace hx := Lib.hid hx
    clear hrl
    go_wp2
    go_ret
    exact ⟨by rw [hans.out, hQ.out]; rfl, rfl⟩
theorem ltrim_nil {l : List UInt8} : ltrim l = [] ↔ allZ l = true := by
 induction l with
 | nil => simp [ltrim, allZ]
 | cons x l ih =>
  rw [ltrim_cons]
  by_cases h : x = 0
  ·subst h; rw [if_pos rfl, ih]; simp [allZ]
  ·rw [if_neg h]; simp [allZ, h]
theorem rtrim_nilz {l : List UInt8} : rtrim l = [] ↔ allZ l = true := by
 unfold rtrim
 rw [List.reverse_eq_nil_iff]
 have := ltrim_nil (l := l.reverse)
 unfold ltrim at this
 rw [this]
 simp [allZ]
theorem allZ_rtrim {l : List UInt8} (h : allZ (rtrim l) = true) : allZ l = true := by
 apply Decidable.byContradiction
 intro hn
 have hs := rtrim_some (by simpa using hn)
 obtain ⟨q, x, hq⟩ : ∃ q x, rtrim l = q ++ [x] := by
  rcases List.eq_nil_or_concat (rtrim l) with h0 | ⟨q, x, h0⟩
  ·exact (hs h0).elim
  ·exact ⟨q, x, by simpa using h0⟩
 have hx : x ≠ 0 := by
  intro h0
  have e : rtrim (rtrim l) = rtrim l := by
   refine snoc_ind (p := fun l => rtrim (rtrim l) = rtrim l) rfl (fun l y ih => ?_) l
   rw [rtrim_snoc]
   split
   ·exact ih
   ·rename_i hy
    rw [rtrim_snoc, if_neg hy]
  rw [hq, rtrim_snoc, if_pos h0] at e
  have h1 := congrArg List.length e
  have h2 := rtrim_length q
  simp at h1
  omega
 rw [hq] at h
 simp [allZ] at h
 exact hx h.2
theorem trim_nil (l : List UInt8) : ltrim (rtrim l) = [] ↔ allZ l = true := by
 rw [ltrim_nil]
 refine ⟨allZ_rtrim, fun h => ?_⟩
 rw [rtrim_nilz.2 h]
 rfl
set_option maxRecDepth 100000 in
theorem trim_any (w : World) (l : List UInt8) (hl : l.length ≤ 1048576) :
  Calls Tryz.prog 134 #[.string (strOf l), .string ⟨#[0]⟩] w fun e w' => e = .returned (.string (strOf (ltrim (rtrim l)))) ∧ ∃ m, w' = w.drewN m := by
 cases l with
 | nil =>
  have h0 : strOf [] = ⟨#[]⟩ := rfl
  rw [h0]
  go_enter Tryz.func134, Tryz.ntmps134
  go_wp2
  go_ret
  exact ⟨rfl, 0, rfl⟩
 | cons x q =>
  have hne : ((strOf (x :: q)).toList == ([] : List UInt8)) = false := by
   rw [show (strOf (x :: q)).toList = x :: q from ByteArray.toList_mk _]; rfl
  have hix := cons_index [] 0
  have hsz : (strOf (0 :: [])).size = 1 := rfl
  rw [show strOf (0 :: []) = ⟨#[0]⟩ from rfl] at hix hsz
  unfold byteV at hix
  have hans := fun W => trimRight_any W (x :: q) hl
  have hans2 := fun W => trimLeft_any W (rtrim (x :: q)) (Nat.le_trans (rtrim_length _) hl)
  generalize strOf (x :: q) = Q at *
  generalize rtrim (x :: q) = R at *
  go_enter Tryz.func134, Tryz.ntmps134
  go_wp2_with fail
  go_quiet ((first | (with_reducible refine Calls.quiet_of_same (hans _)) | (with_reducible refine Calls.quiet_of_same (hans2 _))))
  go_wp2
  go_ret
  exact ⟨rfl, _, rfl⟩
set_option maxRecDepth 100000 in
theorem zero_any (w : World) (l : List UInt8) (hl : l.length ≤ 1048576) :
  Calls Tryz.prog 123 #[.string (strOf l)] w fun e w' => e = .returned (.bool (allZ l)) ∧ ∃ m, w' = w.drewN m := by
 have ht := fun W => trim_any W l hl
 have hz := trim_nil l
 generalize ltrim (rtrim l) = T at *
 go_enter Tryz.func123, Tryz.ntmps123
 go_wp2_with fail
 refine (ht _).mono ?_; rintro e w1 ⟨rfl, m, rfl⟩
 cases T with
 | nil =>
  have h0 : strOf [] = ⟨#[]⟩ := rfl
  rw [h0]
  have hz' := Lib.hid (hz.1 rfl)
  clear hz
  go_wp2
  go_ret
  exact ⟨by rw [hz'.out]; rfl, m, rfl⟩
 | cons x q =>
  have hne : ((strOf (x :: q)).toList == ([] : List UInt8)) = false := by
   rw [show (strOf (x :: q)).toList = x :: q from ByteArray.toList_mk _]; rfl
  have hf : allZ l = false := by
   cases h : allZ l with
   | false => rfl
   | true => have := hz.2 h; cases this
  have hf := Lib.hid hf
  generalize strOf (x :: q) = Q at *
  clear hz
  go_wp2
  go_ret
  exact ⟨by rw [hf.out]; rfl, m, rfl⟩
end Go.Proofs.YtmelaiefbpdifaaGreatDoor.Pgs
/- Right: is a list an object? By the program, by the document. -/
namespace Go.Proofs.YtmelaiefbpdifaaGreatDoor.Pgs
open Go.RowKit
def pgE (p : Pg) : List Value := [.int .i64 p.n, .string (strOf p.d)]
theorem pgE_length (p : Pg) : (pgE p).length = 2 := rfl
theorem pgE_one (p : Pg) : ∀ v ∈ pgE p, v.oneCell' = true := by
 intro v hv
 simp [pgE] at hv
 rcases hv with rfl | rfl <;> rfl
theorem info_pg : (Tryz.prog.info? 138).map (fun i => (i.zero, i.size, i.bytes)) = some (some (.agg #[.int .i64 0, .string ⟨#[]⟩]), 2, 24) := by kernel_rfl
theorem pgs_at {w : World} {g o : Nat} {l : List Pg} (h : ElsAt pgE 2 w g o l) {i : Nat} (hi : i < l.length) : w.cell? ⟨g, o + i * 2, none⟩ = some (.int .i64 l[i].n) ∧ w.cell? ⟨g, o + i * 2 + 1, none⟩ = some (.string (strOf l[i].d)) :=
 ⟨by simpa using h i hi 0 _ rfl, h i hi 1 _ rfl⟩
theorem okP_no {last : Int} {p : Pg} {r : List Pg} (h : ¬ (last < p.n ∧ p.n < 32 ∧ p.d.length = 32 ∧ allZ p.d = false)) : okP last (p :: r) = false := by
 apply Bool.eq_false_iff.2
 intro hk
 obtain ⟨h1, h2, h3, h4, _⟩ := okP_cons.1 hk
 exact h ⟨h1, h2, h3, h4⟩
theorem okP_yes {last : Int} {p : Pg} {r : List Pg} (h1 : last < p.n) (h2 : p.n < 32) (h3 : p.d.length = 32) (h4 : allZ p.d = false) : okP last (p :: r) = okP p.n r := by
 simp [okP, h1, h2, h3, h4]
set_option maxRecDepth 100000 in
set_option maxHeartbeats 1000000 in
theorem right_any (w : World) (A : Option Addr) (c n : Nat) (o : List Pg) (hn : n = o.length) (hA : Els pgE 2 w A o) (hl : n ≤ 9223372036854775807) :
  Calls Tryz.prog 65 #[.slice A n c] w fun e w' => e = .returned (.bool (right o)) ∧ Only [] w w' := by
 have HN := Lib.hid hn
 clear hn
 go_enter Tryz.func65, Tryz.ntmps65
 go_wp2_with fail
 go_loopw [3, 8] (fun v i wr => ∃ (k : Nat) (last : Int), k ≤ n ∧ i = .int .i64 k ∧ v = .int .i64 last ∧ Hid (right o = okP last (o.drop k)) ∧ Only [] w wr) (fun _ i _ => n - (intOf i).toNat)
 case atStart => exact ⟨0, -1, by omega, rfl, rfl, rfl, Only.refl _ _⟩
 case round =>
  obtain ⟨k, last, hk, rfl, rfl, hr, honly⟩ := hrel
  by_cases hlt : k < n
  ·have hk' : k < o.length := by have := HN.out; omega
   obtain ⟨g, off, rfl, _, hat⟩ := hA.get hk'
   obtain ⟨c0, c1⟩ := pgs_at (hat.kept honly (by simp)) hk'
   have hd : o.drop k = o[k] :: o.drop (k + 1) := List.drop_eq_getElem_cons hk'
   generalize o[k] = p at *
   obtain ⟨N, d⟩ := p
   simp only at c0 c1
   have hsz := strOf_size d
   have hno : ¬ (last < N ∧ N < 32 ∧ d.length = 32 ∧ allZ d = false) → Hid (right o = false) := fun h => by
    show right o = false
    rw [hr.out, hd]
    exact okP_no h
   have hyes : last < N → N < 32 → d.length = 32 → allZ d = false → Hid (right o = okP N (o.drop (k + 1))) := fun a1 a2 a3 a4 => by
    show right o = _
    rw [hr.out, hd]
    exact okP_yes a1 a2 a3 a4
   have hzero := fun W (h : d.length ≤ 1048576) => zero_any W d h
   generalize hs : strOf d = s at *
   have hs := Lib.hid hs
   have hno := Lib.hid hno
   have hyes := Lib.hid hyes
   have hd := Lib.hid hd
   rename_i hs0 hno0 hyes0 hd0
   clear hs0 hno0 hyes0 hd0 hr hat hA
   by_cases h1 : N ≤ last
   ·have hf := hno.out (by omega)
    go_wp2
    go_ret
    exact ⟨by rw [hf.out]; rfl, honly.alloc _⟩
   ·by_cases h2 : N < 32
    ·by_cases h3 : d.length = 32
     ·have h3' : s.size = 32 := by omega
      have hz := fun W => hzero W (by omega)
      clear hzero
      by_cases h4 : allZ d = true
      ·have hf := hno.out (by simp [h4])
       rw [h4] at hz
       have h3 := Lib.hid h3
       rename_i h30
       clear h30 hsz
       go_wp2_with fail
       refine (hz _).mono ?_; rintro e w1 ⟨rfl, m, rfl⟩
       go_wp2
       go_ret
       exact ⟨by rw [hf.out]; rfl, (honly.alloc _).drewN m⟩
      ·have h4' : allZ d = false := by simpa using h4
       have hnext := hyes.out (by omega) h2 h3 h4'
       rw [h4'] at hz
       have h3 := Lib.hid h3
       have h4' := Lib.hid h4'
       rename_i h30 h40
       clear h30 h40 h4 hsz
       go_wp2_with fail
       refine (hz _).mono ?_; rintro e w1 ⟨rfl, m, rfl⟩
       go_wp2_with fail
       go_roundw
       case rel => exact ⟨k + 1, N, by omega, by go_num, rfl, hnext, (honly.alloc _).drewN m⟩
       case measure => simp [intOf]; omega
     ·have hf := hno.out (fun h => h3 h.2.2.1)
      have h3' : ¬ (s.size : Int) = 32 := by omega
      clear hzero
      go_wp2
      go_ret
      exact ⟨by rw [hf.out]; rfl, honly.alloc _⟩
    ·have hf := hno.out (fun h => h2 h.2.1)
     clear hzero
     go_wp2
     go_ret
     exact ⟨by rw [hf.out]; rfl, honly.alloc _⟩
  ·have hfin : right o = true := by
    rw [hr.out, List.drop_of_length_le (by have := HN.out; omega)]
    rfl
   have hfin := Lib.hid hfin
   clear hA hr
   go_wp2
   go_ret
   exact ⟨by rw [hfin.out]; rfl, honly⟩
end Go.Proofs.YtmelaiefbpdifaaGreatDoor.Pgs
/- The document's Right. -/
namespace Go.Proofs.YtmelaiefbpdifaaGreatDoor.Pgs
open Go.RowKit
end Go.Proofs.YtmelaiefbpdifaaGreatDoor.Pgs
/- A body and a page in memory: copied into, cleared, compared, loaded, stored. -/
namespace Go.Proofs.YtmelaiefbpdifaaGreatDoor.Pgs
open Go.RowKit
theorem byteVs_lay (b x : List UInt8) (off : Nat) : byteVs (lay b off x) = (byteVs b).take off ++ (byteVs x ++ (byteVs b).drop (off + (byteVs x).length)) := by
 simp [byteVs, lay]
theorem lay_none (b : List UInt8) (off : Nat) : lay b off [] = b := by simp [lay]
theorem chunk_byteVs (b : List UInt8) (k : Nat) : ∀ j v, (byteVs (chunk b k))[j]? = some v → (byteVs b)[k * 32 + j]? = some v := by
 intro j v hj
 have hl := (List.getElem?_eq_some_iff.1 hj).1
 simp only [byteVs, chunk, List.getElem?_map, List.getElem?_take, List.getElem?_drop] at hj ⊢
 split at hj
 ·exact hj
 ·simp at hj
theorem zero_body : (Tryz.prog.info? 146).map (fun i => (i.zero, i.size)) = some (some (.agg (byteVs (zs 1024)).toArray), 1024) := by
 have e : (byteVs (zs 1024)).toArray = Array.replicate 1024 (.int .u8 0) := by
  unfold zs byteVs
  rw [List.map_replicate, List.toArray_replicate]
  rfl
 have h : (Tryz.prog.info? 146).map (fun i => (i.zero, i.size)) = some (some (.agg (Array.replicate 1024 (.int .u8 0))), 1024) := by kernel_rfl
 rw [e]
 exact h
theorem zero_page : (Tryz.prog.info? 275).map (fun i => (i.zero, i.size)) = some (some (.agg (byteVs (zs 32)).toArray), 32) := by
 have e : (byteVs (zs 32)).toArray = Array.replicate 32 (.int .u8 0) := by
  unfold zs byteVs
  rw [List.map_replicate, List.toArray_replicate]
  rfl
 have h : (Tryz.prog.info? 275).map (fun i => (i.zero, i.size)) = some (some (.agg (Array.replicate 32 (.int .u8 0))), 32) := by kernel_rfl
 rw [e]
 exact h
section
variable {P : Program} {w : World} {ops : Array Oper} {rest : List Oper} {o : Oper} {a : Act} {Q : Exit → Act → World → Prop}
theorem wpList_copy_text (hgd : o.guard = none) (d s : Operand) (dT sT : TypeId)
  (ho : o.op = .call { callee := .builtin .copy, args := #[d, s], argTypes := #[dT, sT] }) (elem : TypeId) (hu : P.underlying dT = some (.slice elem)) (hsz : (P.info? elem).map (·.size) = some 1)
  (g off off' n dCap : Nat) (b : List UInt8) (hd : a.eval d = .slice (some ⟨g, off', none⟩) n dCap) (hs : a.eval s = .string (strOf b))
  (cur : List UInt8) (t : TypeId) (hg : Blk w g t (byteVs cur).toArray) (hn : b.length ≤ n) (hoff : b ≠ [] → off' = off) (hfit : off + b.length ≤ cur.length) (hfit' : off' + b.length ≤ cur.length)
  (h : ∀ w', Blk w' g t (byteVs (lay cur off b)).toArray → Only [g] w w' → wpList P ops Q rest (a.put o.dst (goInt b.length)) w') : wpList P ops Q (o :: rest) a w := by
 refine wpList_plain hgd fun K hK => ?_
 have hrun := Lib.run_copy_row_string (P := P) w dT sT o.type elem g off' n dCap (strOf b) (byteVs cur).toArray t hu hsz hg (by rw [strOf_size]; exact hn) (by rw [strOf_size]; simpa [byteVs_length] using hfit')
 unfold Oper.wp
 simp [execOp, ho, resolve, invoke, builtin, hd, hs, hrun, Result.andThen]
 rw [strOf_size]
 refine hK _ _ (h _ ?_ ((Only.refl [g] w).setRow (.inl (by simp)) _))
 unfold Blk
 rw [setRow_heap w g (byteVs cur).toArray _ t _ hg]
 by_cases hb : b = []
 ·subst hb
  simp [strOf_list, byteCells_byteVs, lay_none, byteVs]
 ·rw [byteVs_lay, hoff hb]
  simp [strOf_list, byteCells_byteVs, byteVs_length]
theorem wpList_copy_page (hgd : o.guard = none) (d s : Operand) (dT sT : TypeId)
  (ho : o.op = .call { callee := .builtin .copy, args := #[d, s], argTypes := #[dT, sT] }) (elem : TypeId) (hu : P.underlying dT = some (.slice elem)) (hsz : (P.info? elem).map (·.size) = some 1)
  (q g k dCap sCap n : Nat) (hd : a.eval d = .slice (some ⟨q, 0, none⟩) 32 dCap) (hs : a.eval s = .slice (some ⟨g, k * 32, none⟩) n sCap) (hn : 32 ≤ n)
  (cur b : List UInt8) (t u : TypeId) (hq : Blk w q t (byteVs cur).toArray) (hc : cur.length = 32) (hg : Blk w g u (byteVs b).toArray) (hfit : k * 32 + 32 ≤ b.length)
  (h : ∀ w', Blk w' q t (byteVs (chunk b k)).toArray → Only [q] w w' → wpList P ops Q rest (a.put o.dst (goInt 32)) w') : wpList P ops Q (o :: rest) a w := by
 have hl : (chunk b k).length = 32 := by unfold chunk; rw [List.length_take, List.length_drop]; omega
 have hl' : (byteVs (chunk b k)).length = 32 := by rw [byteVs_length, hl]
 refine wpList_copy_own hgd d s dT sT ho elem hu hsz q 0 32 dCap ⟨g, k * 32, none⟩ n sCap hd hs (byteVs cur).toArray t hq (byteVs (chunk b k)) (by rw [hl']; exact (Nat.min_eq_right hn).symm) (fun j v hj => ?_) (by rw [hl']; simp [byteVs_length, hc]) (byteVs_one _) ?_
 ·rw [addr_add, hg.cell]
  simpa using chunk_byteVs b k j v hj
 ·rw [hl']
  refine h _ ?_ ((Only.refl [q] w).setRow (.inl (by simp)) _)
  unfold Blk
  rw [setRow_heap w q _ _ t _ hq]
  simp [byteVs, hc]
theorem Only.setCells {S : List Nat} {a : World} {g : Nat} (hg : g ∈ S ∨ a.heap.size ≤ g) : ∀ (vs : List Value) (o : Nat) (w : World), Only S a w → Only S a (w.setCells g o vs)
 | [], _, _, h => h
 | v :: r, o, _, h => Only.setCells hg r (o + 1) _ (h.setCell hg v)
theorem Blk.setCells {g : Nat} {t : TypeId} : ∀ (vs cs : List Value) (o : Nat) (w : World), Blk w g t cs.toArray → o + vs.length ≤ cs.length → Blk (w.setCells g o vs) g t (cs.take o ++ (vs ++ cs.drop (o + vs.length))).toArray
 | [], cs, o, _, h, _ => by simpa [World.setCells] using h
 | v :: r, cs, o, w, h, hl => by
  rw [World.setCells]
  have h1 := h.set o v
  rw [List.setIfInBounds_toArray] at h1
  have h2 := Blk.setCells r (cs.set o v) (o + 1) _ h1 (by simp at hl ⊢; omega)
  have e : (cs.set o v).take (o + 1) ++ (r ++ (cs.set o v).drop (o + 1 + r.length)) = cs.take o ++ (v :: r ++ cs.drop (o + (v :: r).length)) := by
   simp only [List.length_cons] at hl ⊢
   rw [List.take_add_one, List.take_set_of_le (Nat.le_refl _), List.getElem?_set_self (by omega), List.drop_set_of_lt (by omega)]
   simp [Nat.add_comm, Nat.add_left_comm]
  rw [e] at h2
  exact h2
theorem wpList_clear (hgd : o.guard = none) (d : Operand) (dT : TypeId) (ho : o.op = .call { callee := .builtin .clear, args := #[d], argTypes := #[dT] })
  (e : TypeId) (hu : P.underlying dT = some (.slice e)) (hv : ∀ w, (zeroValue e).run P w = .ok (.int .u8 0) w)
  (g off off' n dCap : Nat) (hd : a.eval d = .slice (some ⟨g, off', none⟩) n dCap) (b : List UInt8) (t : TypeId) (hg : Blk w g t (byteVs b).toArray) (hb : b.length = 1024) (hn : off + n = 1024) (hoff : n ≠ 0 → off' = off)
  (h : ∀ w', Blk w' g t (byteVs (cutB b off)).toArray → Only [g] w w' → wpList P ops Q rest (a.put o.dst (.tuple #[])) w') : wpList P ops Q (o :: rest) a w := by
 refine wpList_plain hgd fun K hK => ?_
 by_cases h0 : n = 0
 ·subst h0
  have hrun : (Builtin.clear_ #[dT] o.type #[.slice (some ⟨g, off', none⟩) 0 dCap]).run P w = .ok (.tuple #[]) w := by
   simp [Builtin.clear_, run_underlying hu]
  unfold Oper.wp
  simp [execOp, ho, resolve, invoke, builtin, hd, hrun, Result.andThen]
  have h1 := h w (by
   have : cutB b off = b := by
    rw [show off = 1024 by omega]
    unfold cutB
    rw [List.take_of_length_le (by omega)]
    simp [zs]
   rw [this]; exact hg) (Only.refl _ _)
  exact hK _ _ h1
 ·have ho' := hoff h0
  subst ho'
  have hrun := Lib.run_clear_slice (P := P) w dT e o.type (.int .u8 0) hu hv rfl rfl g off' n dCap (by omega) (fun j hj => by
   rw [hg.cell]
   simp only [List.getElem?_toArray]
   rw [List.getElem?_eq_getElem (by rw [byteVs_length]; omega)]
   rfl) (fun j _ => hg.free _)
  unfold Oper.wp
  simp [execOp, ho, resolve, invoke, builtin, hd, hrun, Result.andThen]
  have h1 := h _ (by
   have hs := Blk.setCells (List.replicate n (.int .u8 0)) (byteVs b) off' w hg (by rw [byteVs_length, List.length_replicate]; omega)
   have e : (byteVs b).take off' ++ (List.replicate n (.int .u8 0) ++ (byteVs b).drop (off' + (List.replicate n (Value.int .u8 0)).length)) = byteVs (cutB b off') := by
    rw [List.length_replicate, List.drop_of_length_le (by rw [byteVs_length]; omega)]
    simp [byteVs, cutB, zs, byteV, show 1024 - off' = n by omega]
   rw [e] at hs
   exact hs) (Only.setCells (.inl (by simp)) _ _ _ (Only.refl [g] w))
  exact hK _ _ h1
theorem eqGuard_arr (op : BinOp) (t : TypeId) (x y : Operand) (xs ys : Array Value) (hm : P.eqGuardType P.depth t = false) : (eqGuard op t x y (.agg xs) (.agg ys)).run P w = .ok () w := run_eqGuard_agg (P := P) w op t x y xs ys hm
theorem run_eql_page (t e : TypeId) (ht : P.underlying t = some (.array 32 e)) (he : P.underlying e = some (.int .u8)) (hsz : ∀ w, (sizeOf e).run P w = .ok 1 w) (l m : List UInt8) (hl : l.length = 32) (hm : m.length = 32) :
  (binOp .eql t (.agg (byteVs l).toArray) (.agg (byteVs m).toArray)).run P w = .ok (.bool (l == m)) w := run_eql_bytes (P := P) w t e 32 ht he hsz l m hl hm
theorem run_neq_page (t e : TypeId) (ht : P.underlying t = some (.array 32 e)) (he : P.underlying e = some (.int .u8)) (hsz : ∀ w, (sizeOf e).run P w = .ok 1 w) (l m : List UInt8) (hl : l.length = 32) (hm : m.length = 32) :
  (binOp .neq t (.agg (byteVs l).toArray) (.agg (byteVs m).toArray)).run P w = .ok (.bool (!(l == m))) w := by
 have h := run_equalIn_bytes (P := P) w 9998 t e 32 ht he hsz l m hl hm
 rw [run_neq_struct]
 show Result.andThen ((Op.equalIn (9998 + 2) t (.agg (l.map Extern.Stop.cell).toArray) (.agg (m.map Extern.Stop.cell).toArray)).run P w) _ = _
 rw [h]
 rfl
theorem wpList_eql_page (hgd : o.guard = none) (x y : Operand) (t e u : TypeId) (ho : o.op = .binOp .eql t x y u) (hm : P.eqGuardType P.depth t = false) (ht : P.underlying t = some (.array 32 e)) (he : P.underlying e = some (.int .u8)) (hsz : ∀ w, (sizeOf e).run P w = .ok 1 w)
  (l m : List UInt8) (X Y : Array Value) (r : Bool) (hx : a.eval x = .agg X) (hy : a.eval y = .agg Y) (hX : X = (byteVs l).toArray) (hY : Y = (byteVs m).toArray) (hl : l.length = 32) (hml : m.length = 32) (hr : (l == m) = r)
  (h : wpList P ops Q rest (a.put o.dst (.bool r)) w) : wpList P ops Q (o :: rest) a w := by
 subst hX
 subst hY
 subst hr
 refine wpList_plain hgd fun K hK => ?_
 unfold Oper.wp
 simp only [execOp, ho, hx, hy, Sem.run_bind, Sem.run_pure, Result.andThen_ok, eqGuard_arr _ _ _ _ _ _ hm, run_eql_page (P := P) t e ht he hsz l m hl hml]
 exact hK _ _ h
theorem wpList_neq_page (hgd : o.guard = none) (x y : Operand) (t e u : TypeId) (ho : o.op = .binOp .neq t x y u) (hm : P.eqGuardType P.depth t = false) (ht : P.underlying t = some (.array 32 e)) (he : P.underlying e = some (.int .u8)) (hsz : ∀ w, (sizeOf e).run P w = .ok 1 w)
  (l m : List UInt8) (X Y : Array Value) (r : Bool) (hx : a.eval x = .agg X) (hy : a.eval y = .agg Y) (hX : X = (byteVs l).toArray) (hY : Y = (byteVs m).toArray) (hl : l.length = 32) (hml : m.length = 32) (hr : (!(l == m)) = r)
  (h : wpList P ops Q rest (a.put o.dst (.bool r)) w) : wpList P ops Q (o :: rest) a w := by
 subst hX
 subst hY
 subst hr
 refine wpList_plain hgd fun K hK => ?_
 unfold Oper.wp
 simp only [execOp, ho, hx, hy, Sem.run_bind, Sem.run_pure, Result.andThen_ok, eqGuard_arr _ _ _ _ _ _ hm, run_neq_page (P := P) t e ht he hsz l m hl hml]
 exact hK _ _ h
end
theorem step_eql_page {P : Program} {ops : Array Oper} {o : Oper} {a : Act} {w : World} {K : Act → World → Prop} {Q : Exit → Act → World → Prop} {E : Prop} (hgd : o.guard = none) (x y : Operand) (t e u : TypeId) (ho : o.op = .binOp .eql t x y u) (hm : P.eqGuardType P.depth t = false) (ht : P.underlying t = some (.array 32 e)) (he : P.underlying e = some (.int .u8)) (hsz : ∀ w, (sizeOf e).run P w = .ok 1 w)
  (l m : List UInt8) (X Y : Array Value) (r : Bool) (hx : a.eval x = .agg X) (hy : a.eval y = .agg Y) (hX : X = (byteVs l).toArray) (hY : Y = (byteVs m).toArray) (hl : l.length = 32) (hml : m.length = 32) (hr : (l == m) = r)
  (h : K (a.put o.dst (.bool r)) w) : if Region.wanted o (yielded ops a.tmps) = true then Oper.wp P o a w K Q else E := by
 have hw : Region.wanted o (yielded ops a.tmps) = true := by simp [Region.wanted, hgd]
 rw [if_pos hw]
 subst hX
 subst hY
 subst hr
 unfold Oper.wp
 simp only [execOp, ho, hx, hy, Sem.run_bind, Sem.run_pure, Result.andThen_ok, eqGuard_arr _ _ _ _ _ _ hm, run_eql_page (P := P) t e ht he hsz l m hl hml]
 exact h
theorem Blk.range {w : World} {g : Nat} {t : TypeId} {b : List UInt8} (h : Blk w g t (byteVs b).toArray) : w.rangeAt g 0 (byteVs b) := fun j v hj => by
 rw [Nat.zero_add, h.cell]
 simpa using hj
theorem one_bytes (b : List UInt8) : (byteVs b).toArray.all (·.oneCell') = true := all_oneCell_toArray (byteVs_one b)
end Go.Proofs.YtmelaiefbpdifaaGreatDoor.Pgs
/- spread: an object's bytes; page: one of a body; pages: the object of a body. -/
namespace Go.Proofs.YtmelaiefbpdifaaGreatDoor.Pgs
open Go.RowKit
theorem results_row {fn : Func} {p : Tmp} {ty : TypeId} (h : fn.results = #[.cell p ty]) (tmps : Array Value) (P : Program) (w : World) (g : Nat) (hp : tmps.getD p undef = .pointer (some ⟨g, 0, none⟩)) (cs : List Value) (d : TypeDesc)
  (hc : w.rangeAt g 0 cs) (hu : P.underlying ty = some d) (hd : d.isRow = true) (hi : (P.info? ty).map (·.size) = some cs.length) : (results fn tmps).run P w = .ok (.agg cs.toArray) w := by
 rw [results_cell h, hp]
 simp [asAddr, Result.andThen, run_loadVar_mid (P := P) w g 0 ty cs d hc hu hd hi]
theorem body_from (q k : Nat) (x : Int) (hx : x = k) (hk : k ≤ 1024) :
  ∃ off : Nat, (k < 1024 → off = k) ∧ off ≤ k ∧ ∀ W : World, (Instr.sliceAt 146 (.pointer (some ⟨q, 0, none⟩)) (some (.int .i64 x)) none none).run Tryz.prog W = .ok (.slice (some ⟨q, off, none⟩) (1024 - k) (1024 - k)) W := by
 subst hx
 have ht : Tryz.prog.underlying 146 = some (.array (Tryz.prog.arrayLen 146) (Tryz.prog.elem 146)) := by kernel_rfl
 have hl : Tryz.prog.arrayLen 146 = 1024 := by kernel_rfl
 have he : Tryz.prog.elem 146 = 5 := by kernel_rfl
 refine ⟨if 1024 = k then 0 else k, fun h => by rw [if_neg (by omega)], by split <;> omega, fun W => ?_⟩
 rw [run_sliceAt_array_l W _ _ ht .i64 (k : Int) (by omega) (by rw [hl]; omega), hl, he, Tryz.sizeOf5]
 by_cases h : 1024 = k
 ·simp [Result.andThen, slicedAt, ← h]
 ·simp [Result.andThen, slicedAt, h, addr_add]
theorem size_body : (Tryz.prog.info? 146).map (·.size) = some 1024 := (zero_of_info zero_body).2
theorem size_page : (Tryz.prog.info? 275).map (·.size) = some 32 := (zero_of_info zero_page).2
theorem take_snoc {o : List Pg} {k : Nat} (h : k < o.length) : o.take (k + 1) = o.take k ++ [o[k]] := by
 rw [List.take_add_one, List.getElem?_eq_getElem h]
 rfl
set_option maxRecDepth 100000 in
set_option maxHeartbeats 1000000 in
theorem spread_any (w : World) (A : Option Addr) (c n : Nat) (o : List Pg) (hn : n = o.length) (hA : Els pgE 2 w A o) (hr : right o = true) :
  Calls Tryz.prog 67 #[.slice A n c] w fun e w' => e = .returned (.agg (byteVs (body o)).toArray) ∧ Only [] w w' := by
 have hn32 : n ≤ 32 := by have := right_len hr; omega
 have HN := Lib.hid hn
 have HR := Lib.hid hr
 clear hn hr
 obtain ⟨Z, hZ⟩ : ∃ Z, Z = (byteVs (zs 1024)).toArray := ⟨_, rfl⟩
 have hz0 := (zero_of_info zero_body).1
 rw [← hZ] at hz0
 have hZ2 : Z = (byteVs (body (o.take 0))).toArray := by rw [hZ, List.take_zero, body_nil]
 have hZ3 : Z.size = 1024 := by rw [hZ]; simp [byteVs, zs]
 replace hZ := Lib.hid hZ
 replace hZ2 := Lib.hid hZ2
 go_enter Tryz.func67, Tryz.ntmps67
 go_wp2_with fail
 obtain ⟨W2, hW2⟩ : ∃ W2, W2 = (w.alloc (.cells Z 146)).alloc (.cells Z 146) := ⟨_, rfl⟩
 have k2 : Only [] w W2 := by rw [hW2]; exact ((Only.refl [] w).alloc _).alloc _
 have b0 : Blk W2 w.heap.size 146 Z := by rw [hW2]; exact (Blk.new w _ _).alloc _
 have b1 : Blk W2 (w.heap.size + 1) 146 Z := by
  rw [hW2]
  have := Blk.new (w.alloc (.cells Z 146)) 146 Z
  simpa using this
 rw [hZ2.out] at b1
 rw [← hW2]
 replace hW2 := Lib.hid hW2
 go_loopw [8] (fun i wr => ∃ k : Nat, k ≤ n ∧ i = .int .i64 k ∧ Blk wr w.heap.size 146 Z ∧ Blk wr (w.heap.size + 1) 146 (byteVs (body (o.take k))).toArray ∧ Only [] w wr) (fun i _ => n - (intOf i).toNat)
 case atStart => exact ⟨0, Nat.zero_le _, rfl, b0, b1, k2⟩
 case round =>
  clear b0 b1 k2
  obtain ⟨k, hk, rfl, b0, b1, honly⟩ := hrel
  by_cases hlt : k < n
  ·have hk' : k < o.length := by have := HN.out; omega
   obtain ⟨g, off, rfl, _, hat⟩ := hA.get hk'
   obtain ⟨c0, c1⟩ := pgs_at (hat.kept honly (by simp)) hk'
   have hmem := okP_mem o (-1) HR.out o[k] (List.getElem_mem hk')
   have hnext : body (o.take (k + 1)) = lay (body (o.take k)) (o[k].n.toNat * 32) o[k].d := by
    rw [take_snoc hk']
    exact body_snoc (by rw [← take_snoc hk']; exact right_take HR.out _)
   have hbl : (body (o.take k)).length = 1024 := body_len (right_take HR.out _)
   generalize o[k] = p at *
   obtain ⟨N, d⟩ := p
   simp only at c0 c1 hmem hnext
   obtain ⟨m0, m1, m2, _⟩ := hmem
   obtain ⟨m, rfl⟩ : ∃ m : Nat, N = m := ⟨N.toNat, by omega⟩
   rw [Int.toNat_natCast] at hnext
   have hm : m < 32 := by omega
   clear m0 m1 hat hA
   have hwr : IntKind.i64.wrap ((m : Int) * 32) = (m : Int) * 32 := by rw [IntKind.wrap_i64]; omega
   obtain ⟨off', ho1, ho2, hsl⟩ := body_from (w.heap.size + 1) (m * 32) ((m : Int) * 32) (by omega) (by omega)
   have ho3 : off' = m * 32 := ho1 (by omega)
   subst ho3
   clear ho1 ho2
   generalize hB : body (o.take k) = B at *
   replace hnext := Lib.hid hnext
   replace hB := Lib.hid hB
   have hs : (Value.string (strOf d)) = .string (strOf d) := rfl
   generalize hst : strOf d = s at *
   replace hst := Lib.hid hst
   clear hs
   go_wp2
   obtain ⟨W1, hW1⟩ : ∃ W1, W1 = wr.alloc (.cells #[.int .i64 (m : Int), .string s] 138) := ⟨_, rfl⟩
   rw [← hW1]
   have k1 : Only [] wr W1 := by rw [hW1]; exact (Only.refl [] wr).alloc _
   have p1 : Blk W1 wr.heap.size 138 #[.int .i64 (m : Int), .string s] := by rw [hW1]; exact Blk.new wr _ _
   have e0 := p1.cell 0
   have e1 := p1.cell 1
   simp only [List.getElem?_toArray, List.getElem?_cons_zero, List.getElem?_cons_succ] at e0 e1
   have d0 := b0.kept (k1.drew) (by simp)
   have d1 := b1.kept (k1.drew) (by simp)
   have donly := honly.trans k1.drew
   have hne : w.heap.size + 1 ≠ w.heap.size := by omega
   replace hW1 := Lib.hid hW1
   clear b0 b1 honly k1 p1
   go_still_tail 6, (by kernel_rfl)
   change wpList _ _ _ _ _ W1.drew
   generalize W1.drew = wd at *
   refine wpList_copy_text rfl (.tmp 15) (.tmp 17) 103 9 rfl 5 Tryz.underlying103 (by kernel_rfl) (w.heap.size + 1) (m * 32) (m * 32) (1024 - m * 32) _ d rfl (by rw [hst.out]; rfl) B 146 d1 (by omega) (fun _ => rfl) (by omega) (by omega) ?_
   intro w3 h3 k3
   have f0 := d0.kept k3 (by simp)
   have f2 := donly.then k3 (by
    intro i hi
    simp at hi
    subst hi
    exact .inr (by omega))
   rw [← hnext.out] at h3
   replace f0 := Lib.hid f0
   replace h3 := Lib.hid h3
   clear d0 d1 donly k3 e0 e1
   go_wp2
   go_roundw
   case rel => exact ⟨k + 1, by omega, by go_num, f0.out, h3.out, f2⟩
   case measure => simp [intOf]; omega
  ·have hkn : o.take k = o := List.take_of_length_le (by have := HN.out; omega)
   rw [hkn] at b1
   have hbl : (byteVs (body o)).length = 1024 := by rw [byteVs_length]; exact body_len HR.out
   clear hA hkn
   have hra := Blk.range b1
   have hone := one_bytes (body o)
   generalize hC : byteVs (body o) = C at *
   replace hC := Lib.hid hC
   have hs1 : (Tryz.prog.info? 146).map (·.size) = some C.toArray.size := by rw [List.size_toArray, hbl]; exact size_body
   have hs2 : Z.size = C.toArray.size := hZ3.trans (by rw [List.size_toArray, hbl])
   replace hs1 := Lib.hid hs1
   replace hs2 := Lib.hid hs2
   replace hone := Lib.hid hone
   go_wp2_with (first
    | (refine wpList_load_mid rfl 146 (.tmp 3) rfl (w.heap.size + 1) 0 rfl C _ hra Tryz.underlying146 rfl (by rw [hbl]; exact size_body) ?_)
    | (refine wpList_store_whole rfl 146 (.tmp 2) (.tmp 20) rfl w.heap.size Z C.toArray rfl rfl b0 hs1.out hs2.out hone.out ?_; intro w3 h3 k3))
   have k4 := honly.then k3 (by
    intro i hi
    simp at hi
    subst hi
    exact .inr (Nat.le_refl _))
   go_wp2
   refine bodyPost_ret (v := .agg C.toArray) (results_row rfl _ _ _ w.heap.size rfl C _ (by rw [← hC.out] at h3 ⊢; exact Blk.range h3) Tryz.underlying146 rfl (by rw [hbl]; exact size_body)) rfl ?_
   exact ⟨by rw [hC.out], k4⟩
def BodyB (w : World) (g : Nat) (b : List UInt8) : Prop := Blk w g 146 (byteVs b).toArray ∧ b.length = 1024
set_option maxRecDepth 100000 in
set_option maxHeartbeats 1000000 in
theorem page_any (w : World) (g k : Nat) (b : List UInt8) (hb : BodyB w g b) (hk : k < 32) :
  Calls Tryz.prog 171 #[.pointer (some ⟨g, 0, none⟩), .int .i64 k] w fun e w' => e = .returned (.agg (byteVs (chunk b k)).toArray) ∧ Only [] w w' := by
 obtain ⟨hb, hl⟩ := hb
 have hz0 := (zero_of_info zero_page).1
 obtain ⟨Z, hZ⟩ : ∃ Z, Z = (byteVs (zs 32)).toArray := ⟨_, rfl⟩
 rw [← hZ] at hz0
 have hZ3 : Z.size = 32 := by rw [hZ]; simp [byteVs, zs]
 replace hZ := Lib.hid hZ
 obtain ⟨off', ho1, ho2, hsl⟩ := body_from g (k * 32) ((k : Int) * 32) (by omega) (by omega)
 have ho3 : off' = k * 32 := ho1 (by omega)
 subst ho3
 clear ho1 ho2
 have hwr : IntKind.i64.wrap ((k : Int) * 32) = (k : Int) * 32 := by rw [IntKind.wrap_i64]; omega
 go_enter Tryz.func171, Tryz.ntmps171
 go_wp2_with fail
 obtain ⟨W2, hW2⟩ : ∃ W2, W2 = (w.alloc (.cells Z 275)).alloc (.cells Z 275) := ⟨_, rfl⟩
 have k2 : Only [] w W2 := by rw [hW2]; exact ((Only.refl [] w).alloc _).alloc _
 have b0 : Blk W2 w.heap.size 275 Z := by rw [hW2]; exact (Blk.new w _ _).alloc _
 have b1 : Blk W2 (w.heap.size + 1) 275 Z := by
  rw [hW2]
  have := Blk.new (w.alloc (.cells Z 275)) 275 Z
  simpa using this
 rw [← hW2]
 have d0 := b0.kept ((Only.refl [] W2).drew) (by simp)
 have d1 := b1.kept ((Only.refl [] W2).drew) (by simp)
 have dg := hb.kept (k2.drew) (by simp)
 have dk := k2.drew
 replace hW2 := Lib.hid hW2
 clear b0 b1 k2
 go_still_tail 6, (by kernel_rfl)
 change wpList _ _ _ _ _ W2.drew
 generalize W2.drew = wd at *
 rw [hZ.out] at d1
 refine wpList_copy_page rfl (.tmp 6) (.tmp 11) 103 103 rfl 5 Tryz.underlying103 (by kernel_rfl) (w.heap.size + 1) g k _ _ (1024 - k * 32) rfl rfl (by omega) (zs 32) b 275 146 d1 (zs_length 32) dg (by omega) ?_
 intro w3 h3 k3
 have f0 := d0.kept k3 (by simp)
 have f2 := dk.then k3 (by
  intro i hi
  simp at hi
  subst hi
  exact .inr (by omega))
 have hcl : (byteVs (chunk b k)).length = 32 := by rw [byteVs_length]; exact chunk_len hl hk
 have hra := Blk.range h3
 have hone := one_bytes (chunk b k)
 generalize hC : byteVs (chunk b k) = C at *
 replace hC := Lib.hid hC
 clear d0 d1 dg dk k3 hb hl
 have hs1 : (Tryz.prog.info? 275).map (·.size) = some C.toArray.size := by rw [List.size_toArray, hcl]; exact size_page
 have hs2 : Z.size = C.toArray.size := hZ3.trans (by rw [List.size_toArray, hcl])
 replace hs1 := Lib.hid hs1
 replace hs2 := Lib.hid hs2
 replace hone := Lib.hid hone
 go_wp2_with (first
  | (refine wpList_load_mid rfl 275 (.tmp 5) rfl (w.heap.size + 1) 0 rfl C _ hra Tryz.underlying275 rfl (by rw [hcl]; exact size_page) ?_)
  | (refine wpList_store_whole rfl 275 (.tmp 4) (.tmp 13) rfl w.heap.size Z C.toArray rfl rfl f0 hs1.out hs2.out hone.out ?_; intro w4 h4 k4))
 have k5 := f2.then k4 (by
  intro i hi
  simp at hi
  subst hi
  exact .inr (Nat.le_refl _))
 go_wp2
 refine bodyPost_ret (v := .agg C.toArray) (results_row rfl _ _ _ w.heap.size rfl C _ (by rw [← hC.out] at h4 ⊢; exact Blk.range h4) Tryz.underlying275 rfl (by rw [hcl]; exact size_page)) rfl ?_
 exact ⟨by rw [hC.out], k5⟩
end Go.Proofs.YtmelaiefbpdifaaGreatDoor.Pgs
/- pages: the object that has a body's bytes. -/
namespace Go.Proofs.YtmelaiefbpdifaaGreatDoor.Pgs
open Go.RowKit
theorem BodyB.kept {S : List Nat} {w w' : World} {g : Nat} {b : List UInt8} (h : BodyB w g b) (k : Only S w w') (hg : g ∉ S) : BodyB w' g b := ⟨h.1.kept k hg, h.2⟩
theorem bytes_of_blk {w : World} {g : Nat} {t : TypeId} {b : List UInt8} (h : Blk w g t (byteVs b).toArray) : BytesAt w g 0 b := fun j hj => by
 rw [Nat.zero_add, h.cell]
 simp [byteVs, List.getElem?_eq_getElem hj]
theorem pagesF_yes {f : Nat → List UInt8} {k : Nat} (h : allZ (f k) = true) : pagesF f (k + 1) = pagesF f k := by rw [pagesF, if_pos h]
theorem pagesF_no {f : Nat → List UInt8} {k : Nat} (h : allZ (f k) = false) : pagesF f (k + 1) = pagesF f k ++ [⟨k, f k⟩] := by rw [pagesF, if_neg (by simp [h])]
theorem eq_beq {l m : List UInt8} (h : l = m) : (l == m) = true := by simpa using h
theorem eq_not {l m : List UInt8} (h : ¬ l = m) : (l == m) = false := by simpa using h
theorem guard_page : Tryz.prog.eqGuardType Tryz.prog.depth 275 = false := by kernel_rfl
theorem array_page : Tryz.prog.underlying 275 = some (.array 32 5) := Tryz.underlying275
theorem kind_byte : Tryz.prog.underlying 5 = some (.int .u8) := Tryz.underlying5
set_option maxRecDepth 100000 in
set_option maxHeartbeats 1000000 in
theorem pages_any (w : World) (g : Nat) (b : List UInt8) (hb : BodyB w g b) :
  Calls Tryz.prog 125 #[.pointer (some ⟨g, 0, none⟩)] w fun e w' => ∃ v, e = .returned v ∧ Mine pgE 2 138 w w' v (pages b) := by
 have hz0 := (zero_of_info zero_page).1
 obtain ⟨Z, hZ⟩ : ∃ Z, Z = (byteVs (zs 32)).toArray := ⟨_, rfl⟩
 rw [← hZ] at hz0
 have hZ3 : Z.size = 32 := by rw [hZ]; simp [byteVs, zs]
 replace hZ := Lib.hid hZ
 replace hZ3 := Lib.hid hZ3
 go_enter Tryz.func125, Tryz.ntmps125
 go_wp2_with fail
 go_loopw [3, 6] (fun v i wr => ∃ k : Nat, k ≤ 32 ∧ i = .int .i64 k ∧ Mine pgE 2 138 w wr v (pagesF (chunk b) k)) (fun _ i _ => 32 - (intOf i).toNat)
 case atStart => exact ⟨0, by omega, rfl, Mine.start _ _ _ (Only.refl [] w)⟩
 case round =>
  obtain ⟨k, hk, rfl, hm⟩ := hrel
  by_cases hlt : k < 32
  ·have hbr : BodyB wr g b := hb.kept hm.only (by simp)
   have hcl := chunk_len hb.2 hlt
   have hyes := fun h => pagesF_yes (f := chunk b) (k := k) h
   have hno := fun h => pagesF_no (f := chunk b) (k := k) h
   have hpl := pagesF_len (chunk b) k
   have hcall := fun W (h : BodyB W g b) => page_any W g k b h hlt
   generalize chunk b k = c at *
   generalize hL : pagesF (chunk b) k = L at *
   replace hL := Lib.hid hL
   replace hyes := Lib.hid hyes
   replace hno := Lib.hid hno
   replace hcall := Lib.hid hcall
   replace hbr := Lib.hid hbr
   go_wp2_with fail
   refine (hcall.out _ hbr.out).mono ?_; rintro e w1 ⟨rfl, k1⟩
   have hm1 := hm.keep k1
   obtain ⟨C, hC⟩ : ∃ C, C = (byteVs c).toArray := ⟨_, rfl⟩
   have hone : C.all (·.oneCell') = true := by rw [hC]; exact one_bytes c
   have hC3 : C.size = 32 := by rw [hC]; simp [byteVs, hcl]
   rw [← hC]
   have hs1 : (Tryz.prog.info? 275).map (·.size) = some C.size := by rw [hC3]; exact size_page
   have hs2 : Z.size = C.size := hZ3.out.trans hC3.symm
   replace hs1 := Lib.hid hs1
   replace hs2 := Lib.hid hs2
   replace hone := Lib.hid hone
   replace hC3 := Lib.hid hC3
   replace hC := Lib.hid hC
   replace hcl := Lib.hid hcl
   clear hm k1 hb
   by_cases hz : allZ c = true
   ·have hr : Hid ((!(c == zs 32)) = false) := by
     show (!(c == zs 32)) = false
     rw [eq_beq (eq_zs32 hz hcl.out)]
     rfl
    have hnext := Lib.hid (hyes.out hz)
    replace hz := Lib.hid hz
    go_wp2_with (first
     | (refine wpList_store_whole rfl 275 (.tmp 5) (.tmp 11) rfl w1.heap.size Z C rfl rfl (Blk.new w1 _ _) hs1.out hs2.out hone.out ?_; intro w2 h2 k2)
     | (refine wpList_load_mid rfl 275 (.tmp 5) rfl w1.heap.size 0 rfl (byteVs c) _ (by rw [hC.out] at h2; exact Blk.range h2) Tryz.underlying275 rfl (by rw [byteVs_length, hcl.out]; exact size_page) ?_)
     | (refine wpList_neq_page rfl (.tmp 12) (.tmp 13) 275 5 _ rfl guard_page array_page kind_byte Tryz.sizeOf5 c (zs 32) (byteVs c).toArray Z false rfl rfl rfl hZ.out hcl.out (zs_length 32) hr.out ?_))
    have hm2 := hm1.keep (((Only.refl [] w1).alloc (.cells Z 275)).then k2 (by simp))
    rw [← hnext.out] at hm2
    replace hm2 := Lib.hid hm2
    clear hm1 h2 k2
    go_wp2
    go_roundw
    case rel => exact ⟨k + 1, by omega, by go_num, hm2.out⟩
    case measure => simp [intOf]; omega
   ·have hz' : allZ c = false := by simpa using hz
    have hr : Hid ((!(c == zs 32)) = true) := by
     show (!(c == zs 32)) = true
     rw [eq_not (fun h => hz (by rw [h]; exact allZ_zs 32))]
     rfl
    have hnext := Lib.hid (hno.out hz')
    replace hz := Lib.hid hz
    replace hz' := Lib.hid hz'
    go_wp2_with (first
     | (refine wpList_store_whole rfl 275 (.tmp 5) (.tmp 11) rfl w1.heap.size Z C rfl rfl (Blk.new w1 _ _) hs1.out hs2.out hone.out ?_; intro w2 h2 k2)
     | (refine wpList_load_mid rfl 275 (.tmp 5) rfl w1.heap.size 0 rfl (byteVs c) _ (by rw [hC.out] at h2; exact Blk.range h2) Tryz.underlying275 rfl (by rw [byteVs_length, hcl.out]; exact size_page) ?_)
     | (refine wpList_neq_page rfl (.tmp 12) (.tmp 13) 275 5 _ rfl guard_page array_page kind_byte Tryz.sizeOf5 c (zs 32) (byteVs c).toArray Z true rfl rfl rfl hZ.out hcl.out (zs_length 32) hr.out ?_)
     | (refine wpList_to_string _ rfl 103 9 5 (.tmp 17) rfl Tryz.underlying103 Tryz.underlying5 Tryz.underlying9 (some ⟨w1.heap.size, 0, none⟩) 32 32 c rfl (by
       have h3 := SrcV.of_bytes 32 (bytes_of_blk (w := w2) (g := w1.heap.size) (t := 275) (b := c) (by rw [hC.out] at h2; exact h2))
       rw [hcl.out] at h3
       exact h3) ?_)
     | (at_builtin; go_must (refine wpList_push rfl _ _ 57 rfl 138 _ 24 pgE_length (by decide) pgE_one Tryz.underlying57 info_pg rfl _ L.length L rfl ((hm1.keep (((Only.refl [] w1).alloc (.cells Z 275)).then k2 (by simp))).keep ((Only.refl [] w2).alloc (.cells #[.int .i64 (k : Int), .string (strOf c)] 138))).own w2.heap.size ⟨k, c⟩ _ rfl (Blk.new w2 _ _) (by unfold maxLen; omega) (by omega) ?_); intro vv w6 h6 g6 a6))
    have hm2 := (hm1.keep (((Only.refl [] w1).alloc (.cells Z 275)).then k2 (by simp))).keep ((Only.refl [] w2).alloc (.cells #[.int .i64 (k : Int), .string (strOf c)] 138))
    have hm6 := hm2.pushed h6 g6 a6
    rw [← hnext.out] at hm6
    replace hm6 := Lib.hid hm6
    clear hm1 hm2 h2 k2 h6 g6 a6
    go_wp2
    go_roundw
    case rel => exact ⟨k + 1, by omega, by go_num, hm6.out⟩
    case measure => simp [intOf]; omega
  ·have hk32 : k = 32 := by omega
   subst hk32
   have hfin := Lib.hid hm
   clear hm hb
   go_wp2
   go_ret
   exact ⟨_, rfl, hfin.out⟩
end Go.Proofs.YtmelaiefbpdifaaGreatDoor.Pgs
