/- Objects of pages, as plain lists: what is one, its bytes, the pages of bytes; where its bytes end; what leads from one to another one. -/
import Derived.Test.YtchlcmgdfbabdaaGreatDoorStr7
namespace Go.Proofs.YtchlcmgdfbabdaaGreatDoor.Pgs

theorem part_strOf {P : Program} (t : TypeId) (ht : P.underlying t = some .string) (bs : List UInt8) (i j : Nat) (x y : Int) (k k' : IntKind) (hx : x = i) (hy : y = j) (hij : i ≤ j) (h : j ≤ bs.length) :
    ∀ W : World, (Instr.slice t (.string (strOf bs)) (some (.int k x)) (some (.int k' y)) none).run P W = .ok (.string (strOf ((bs.drop i).take (j - i)))) W := by
  intro W
  subst hx
  subst hy
  have hs := strOf_size bs
  rw [run_slice_string W t _ k k' _ _ ht (by omega) (by omega) (by omega)]
  congr 2
  show (ByteArray.mk bs.toArray).extract _ _ = _
  rw [ByteArray.extract_mk, Int.toNat_natCast, Int.toNat_natCast]
  rfl


structure Pg where
  n : Int
  d : List UInt8
instance : Inhabited Pg := ⟨⟨0, []⟩⟩

def allZ (l : List UInt8) : Bool := l.all (· == 0)
def zs (n : Nat) : List UInt8 := List.replicate n 0
theorem zs_length (n : Nat) : (zs n).length = n := List.length_replicate
theorem allZ_zs (n : Nat) : allZ (zs n) = true := by simp [allZ, zs]
theorem eq_zs {l : List UInt8} (h : allZ l = true) : l = zs l.length := by
  unfold allZ at h
  rw [List.all_eq_true] at h
  exact List.eq_replicate_iff.2 ⟨rfl, fun b hb => by simpa using h b hb⟩
theorem eq_zs32 {l : List UInt8} (h : allZ l = true) (hl : l.length = 32) : l = zs 32 := by rw [eq_zs h, hl]
theorem allZ_32 {l : List UInt8} (hl : l.length = 32) : allZ l = true ↔ l = zs 32 := ⟨fun h => eq_zs32 h hl, fun h => by rw [h]; exact allZ_zs 32⟩

def okP : Int → List Pg → Bool
  | _, [] => true
  | last, p :: r => decide (last < p.n) && (decide (p.n < 32) && (decide (p.d.length = 32) && (!allZ p.d && okP p.n r)))
def right (o : List Pg) : Bool := okP (-1) o

theorem okP_cons {last : Int} {p : Pg} {r : List Pg} : okP last (p :: r) = true ↔ last < p.n ∧ p.n < 32 ∧ p.d.length = 32 ∧ allZ p.d = false ∧ okP p.n r = true := by
  simp [okP]

def top : Int → List Pg → Int
  | l, [] => l
  | _, p :: r => top p.n r
theorem top_append : ∀ (a b : List Pg) (l : Int), top l (a ++ b) = top (top l a) b
  | [], _, _ => rfl
  | p :: a, b, l => by rw [List.cons_append, top, top, top_append a b]
theorem okP_append : ∀ (a b : List Pg) (l : Int), okP l (a ++ b) = (okP l a && okP (top l a) b)
  | [], b, l => by simp [okP, top]
  | p :: a, b, l => by
    rw [List.cons_append, okP, okP, okP_append a b, top]
    simp [Bool.and_assoc]
theorem okP_top : ∀ (o : List Pg) (l : Int), okP l o = true → l ≤ top l o
  | [], l, _ => Int.le_refl l
  | p :: r, l, h => by
    obtain ⟨h1, _, _, _, h5⟩ := okP_cons.1 h
    have := okP_top r p.n h5
    rw [top]
    omega
theorem okP_len : ∀ (o : List Pg) (l : Int), okP l o = true → l < 32 → (o.length : Int) ≤ 31 - l
  | [], l, _, h => by simp; omega
  | p :: r, l, h, _ => by
    obtain ⟨h1, h2, _, _, h5⟩ := okP_cons.1 h
    have := okP_len r p.n h5 h2
    rw [List.length_cons]
    omega
theorem right_len {o : List Pg} (h : right o = true) : o.length ≤ 32 := by
  have := okP_len o (-1) h (by decide)
  omega
theorem okP_mem : ∀ (o : List Pg) (l : Int), okP l o = true → ∀ p ∈ o, l < p.n ∧ p.n < 32 ∧ p.d.length = 32 ∧ allZ p.d = false
  | [], _, _, p, hp => by simp at hp
  | q :: r, l, h, p, hp => by
    obtain ⟨h1, h2, h3, h4, h5⟩ := okP_cons.1 h
    rcases List.mem_cons.1 hp with rfl | hp
    · exact ⟨h1, h2, h3, h4⟩
    · obtain ⟨k1, k2⟩ := okP_mem r q.n h5 p hp
      exact ⟨by omega, k2⟩

/-- A page's bytes: noughts where there is none. -/
def find : List Pg → Nat → List UInt8
  | [], _ => zs 32
  | p :: r, k => if p.n = (k : Int) then p.d else find r k
theorem find_low : ∀ (o : List Pg) (l : Int) (k : Nat), okP l o = true → (k : Int) ≤ l → find o k = zs 32
  | [], _, _, _, _ => rfl
  | p :: r, l, k, h, hk => by
    obtain ⟨h1, h2, h3, h4, h5⟩ := okP_cons.1 h
    rw [find, if_neg (by omega)]
    exact find_low r p.n k h5 (by omega)
theorem find_len : ∀ (o : List Pg) (l : Int) (k : Nat), okP l o = true → (find o k).length = 32
  | [], _, _, _ => zs_length 32
  | p :: r, l, k, h => by
    obtain ⟨h1, h2, h3, h4, h5⟩ := okP_cons.1 h
    rw [find]
    split
    · exact h3
    · exact find_len r p.n k h5
theorem find_mem : ∀ (o : List Pg) (k : Nat), find o k = zs 32 ∨ ∃ p ∈ o, p.n = (k : Int) ∧ find o k = p.d
  | [], _ => .inl rfl
  | p :: r, k => by
    rw [find]
    split
    · rename_i h; exact .inr ⟨p, by simp, h, rfl⟩
    · rcases find_mem r k with h | ⟨q, hq, h⟩
      · exact .inl h
      · exact .inr ⟨q, by simp [hq], h⟩
theorem find_snoc : ∀ (a : List Pg) (p : Pg) (l : Int) (k : Nat), okP l (a ++ [p]) = true → find (a ++ [p]) k = if p.n = (k : Int) then p.d else find a k
  | [], p, l, k, _ => rfl
  | q :: a, p, l, k, h => by
    obtain ⟨h1, h2, h3, h4, h5⟩ := okP_cons.1 h
    have hp := (okP_mem _ _ h5 p (by simp)).1
    rw [List.cons_append, find, find_snoc a p q.n k h5, find]
    by_cases hq : q.n = (k : Int)
    · rw [if_pos hq, if_pos hq, if_neg (by omega)]
    · rw [if_neg hq, if_neg hq]

theorem okP_ext : ∀ (o o' : List Pg) (l : Int), -1 ≤ l → okP l o = true → okP l o' = true → (∀ k : Nat, l < (k : Int) → find o k = find o' k) → o = o'
  | [], [], _, _, _, _, _ => rfl
  | [], q :: r', l, hl, _, h', he => by
    obtain ⟨h1, h2, h3, h4, h5⟩ := okP_cons.1 h'
    have := he q.n.toNat (by omega)
    rw [find, find, if_pos (by omega)] at this
    rw [← this, allZ_zs] at h4
    cases h4
  | p :: r, [], l, hl, h, _, he => by
    obtain ⟨h1, h2, h3, h4, h5⟩ := okP_cons.1 h
    have := he p.n.toNat (by omega)
    rw [find, find, if_pos (by omega)] at this
    rw [this, allZ_zs] at h4
    cases h4
  | p :: r, q :: r', l, hl, h, h', he => by
    obtain ⟨h1, h2, h3, h4, h5⟩ := okP_cons.1 h
    obtain ⟨g1, g2, g3, g4, g5⟩ := okP_cons.1 h'
    have hpq : p.n = q.n := by
      apply Decidable.byContradiction
      intro hne
      rcases Int.lt_or_gt_of_ne hne with hlt | hlt
      · have := he p.n.toNat (by omega)
        rw [find, if_pos (by omega), find, if_neg (by omega), find_low r' q.n _ g5 (by omega)] at this
        rw [this, allZ_zs] at h4
        cases h4
      · have := he q.n.toNat (by omega)
        rw [find, if_neg (by omega), find, if_pos (by omega), find_low r p.n _ h5 (by omega)] at this
        rw [← this, allZ_zs] at g4
        cases g4
    have hd : p.d = q.d := by
      have := he p.n.toNat (by omega)
      rw [find, if_pos (by omega), find, if_pos (by omega)] at this
      exact this
    have hp : p = q := by
      obtain ⟨a, b⟩ := p
      obtain ⟨c, d⟩ := q
      simp only at hpq hd
      rw [hpq, hd]
    subst hp
    rw [okP_ext r r' p.n (by omega) h5 g5 (fun k hk => by
      have := he k (by omega)
      rw [find, if_neg (by omega), find, if_neg (by omega)] at this
      exact this)]

theorem right_ext {o o' : List Pg} (h : right o = true) (h' : right o' = true) (he : ∀ k, k < 32 → find o k = find o' k) : o = o' := by
  refine okP_ext o o' (-1) (by decide) h h' (fun k _ => ?_)
  by_cases hk : k < 32
  · exact he k hk
  · have none : ∀ x : List Pg, right x = true → find x k = zs 32 := fun x hx => by
      rcases find_mem x k with h0 | ⟨p, hp, h1, _⟩
      · exact h0
      · have := (okP_mem x (-1) hx p hp).2.1
        omega
    rw [none o h, none o' h']

/-- All bytes that an object can have. -/
def book (o : List Pg) : List (List UInt8) := (List.range 32).map (find o)
def body (o : List Pg) : List UInt8 := (book o).flatten
theorem book_len (o : List Pg) : (book o).length = 32 := by simp [book]
theorem book_fine {o : List Pg} (h : right o = true) : ∀ b ∈ book o, b.length = 32 := by
  intro b hb
  simp only [book, List.mem_map] at hb
  obtain ⟨k, _, rfl⟩ := hb
  exact find_len o (-1) k h
theorem body_len {o : List Pg} (h : right o = true) : (body o).length = 1024 := by
  unfold body
  rw [flat_len 32 _ (book_fine h), book_len]
theorem book_get (o : List Pg) {k : Nat} (hk : k < 32) : (book o)[k]? = some (find o k) := by
  simp [book, hk]
theorem body_nil : body [] = zs 1024 := by decide +kernel

/-- A page of bytes. -/
def chunk (b : List UInt8) (k : Nat) : List UInt8 := (b.drop (k * 32)).take 32
theorem chunk_len {b : List UInt8} (h : b.length = 1024) {k : Nat} (hk : k < 32) : (chunk b k).length = 32 := by
  unfold chunk
  rw [List.length_take, List.length_drop]
  omega
theorem flat_chunk : ∀ (L : List (List UInt8)) (k : Nat) (b : List UInt8), (∀ b ∈ L, b.length = 32) → L[k]? = some b → (L.flatten.drop (k * 32)).take 32 = b
  | [], k, b, _, hk => by simp at hk
  | x :: L, 0, b, h, hk => by
    simp only [List.getElem?_cons_zero, Option.some.injEq] at hk
    subst hk
    rw [Nat.zero_mul, List.drop_zero, List.flatten_cons, List.take_append_of_le_length (by rw [h x (by simp)]; exact Nat.le_refl _)]
    exact List.take_of_length_le (by rw [h x (by simp)]; exact Nat.le_refl _)
  | x :: L, k + 1, b, h, hk => by
    rw [List.getElem?_cons_succ] at hk
    have hx := h x (by simp)
    rw [List.flatten_cons, List.drop_append, List.drop_of_length_le (by rw [hx]; omega), List.nil_append, hx]
    rw [show (k + 1) * 32 - 32 = k * 32 by omega]
    exact flat_chunk L k b (fun y hy => h y (by simp [hy])) hk
theorem chunk_body {o : List Pg} (h : right o = true) {k : Nat} (hk : k < 32) : chunk (body o) k = find o k :=
  flat_chunk _ k _ (book_fine h) (book_get o hk)
theorem chunks_flatten : ∀ (n : Nat) (b : List UInt8), b.length = n * 32 → ((List.range n).map (chunk b)).flatten = b
  | 0, b, h => by
    have : b = [] := List.eq_nil_of_length_eq_zero (by omega)
    subst this
    rfl
  | n + 1, b, h => by
    rw [List.range_succ, List.map_append, List.flatten_append]
    have e1 : (List.range n).map (chunk b) = (List.range n).map (chunk (b.take (n * 32))) := by
      apply List.map_congr_left
      intro k hk
      simp only [List.mem_range] at hk
      unfold chunk
      rw [List.drop_take, List.take_take, Nat.min_eq_left (by omega)]
    rw [e1, chunks_flatten n (b.take (n * 32)) (by rw [List.length_take]; omega)]
    simp only [List.map_cons, List.map_nil, List.flatten_cons, List.flatten_nil, List.append_nil, chunk]
    rw [List.take_of_length_le (l := b.drop (n * 32)) (by rw [List.length_drop]; omega), List.take_append_drop]

/-- The pages that aren't all noughts. -/
def pagesF (f : Nat → List UInt8) : Nat → List Pg
  | 0 => []
  | k + 1 => if allZ (f k) then pagesF f k else pagesF f k ++ [⟨k, f k⟩]
def pages (b : List UInt8) : List Pg := pagesF (chunk b) 32
theorem pagesF_len (f : Nat → List UInt8) : ∀ k, (pagesF f k).length ≤ k
  | 0 => Nat.le_refl _
  | k + 1 => by
    have := pagesF_len f k
    rw [pagesF]
    split
    · omega
    · simp; omega
theorem pagesF_top (f : Nat → List UInt8) : ∀ k, top (-1) (pagesF f k) < (k : Int)
  | 0 => by rw [pagesF, top]; omega
  | k + 1 => by
    have := pagesF_top f k
    rw [pagesF]
    split
    · omega
    · rw [top_append, top, top]
      simp only
      omega
theorem pagesF_right (f : Nat → List UInt8) : ∀ k, k ≤ 32 → (∀ j, j < k → (f j).length = 32) → right (pagesF f k) = true
  | 0, _, _ => rfl
  | k + 1, hk, h => by
    have ih := pagesF_right f k (by omega) (fun j hj => h j (by omega))
    rw [pagesF]
    split
    · exact ih
    · rename_i hz
      unfold right at ih ⊢
      rw [okP_append, ih, Bool.true_and, okP_cons]
      exact ⟨pagesF_top f k, by simp only; omega, h k (by omega), by simpa using hz, rfl⟩
theorem pagesF_find (f : Nat → List UInt8) (j : Nat) : ∀ k, k ≤ 32 → (∀ j, j < k → (f j).length = 32) → find (pagesF f k) j = if j < k then f j else zs 32
  | 0, _, _ => rfl
  | k + 1, hk, h => by
    have ih := pagesF_find f j k (by omega) (fun j hj => h j (by omega))
    have hr := pagesF_right f (k + 1) hk h
    rw [pagesF] at hr ⊢
    by_cases hz : allZ (f k) = true
    · rw [if_pos hz, ih]
      by_cases hjk : j = k
      · subst hjk
        rw [if_neg (by omega), if_pos (by omega)]
        exact (eq_zs32 hz (h j (by omega))).symm
      · by_cases hlt : j < k
        · rw [if_pos hlt, if_pos (by omega)]
        · rw [if_neg hlt, if_neg (by omega)]
    · rw [if_neg hz] at hr ⊢
      rw [find_snoc _ _ (-1) j hr, ih]
      by_cases hjk : j = k
      · subst hjk
        rw [if_pos rfl, if_pos (by omega)]
      · rw [if_neg (by simp only; omega)]
        by_cases hlt : j < k
        · rw [if_pos hlt, if_pos (by omega)]
        · rw [if_neg hlt, if_neg (by omega)]
theorem pages_right {b : List UInt8} (h : b.length = 1024) : right (pages b) = true := pagesF_right _ 32 (Nat.le_refl _) (fun _ hj => chunk_len h hj)
theorem pages_find {b : List UInt8} (h : b.length = 1024) {j : Nat} (hj : j < 32) : find (pages b) j = chunk b j := by
  have := pagesF_find (chunk b) j 32 (Nat.le_refl _) (fun _ hj => chunk_len h hj)
  rw [if_pos hj] at this
  exact this
theorem body_pages {b : List UInt8} (h : b.length = 1024) : body (pages b) = b := by
  have e : book (pages b) = (List.range 32).map (chunk b) := by
    unfold book
    apply List.map_congr_left
    intro k hk
    exact pages_find h (by simpa using hk)
  unfold body
  rw [e]
  exact chunks_flatten 32 b h
theorem pages_body {o : List Pg} (h : right o = true) : pages (body o) = o :=
  right_ext (pages_right (body_len h)) h fun k hk => by rw [pages_find (body_len h) hk, chunk_body h hk]

/-- Bytes laid over others from some place on. -/
def lay (b : List UInt8) (off : Nat) (x : List UInt8) : List UInt8 := b.take off ++ (x ++ b.drop (off + x.length))
theorem lay_len {b x : List UInt8} {off : Nat} (h : off + x.length ≤ b.length) : (lay b off x).length = b.length := by
  simp only [lay, List.length_append, List.length_take, List.length_drop]
  omega
theorem lay_get {b x : List UInt8} {off : Nat} (h : off + x.length ≤ b.length) (i : Nat) : (lay b off x)[i]? = if off ≤ i ∧ i < off + x.length then x[i - off]? else b[i]? := by
  unfold lay
  by_cases h1 : i < off
  · rw [if_neg (by omega), List.getElem?_append_left (by rw [List.length_take]; omega), List.getElem?_take, if_pos h1]
  · rw [List.getElem?_append_right (by rw [List.length_take]; omega), List.length_take, Nat.min_eq_left (by omega)]
    by_cases h2 : i < off + x.length
    · rw [if_pos ⟨by omega, h2⟩, List.getElem?_append_left (by omega)]
    · rw [if_neg (by omega), List.getElem?_append_right (by omega), List.getElem?_drop]
      congr 1
      omega
theorem body_snoc {o : List Pg} {p : Pg} (h : right (o ++ [p]) = true) : body (o ++ [p]) = lay (body o) (p.n.toNat * 32) p.d := by
  have hp := okP_mem _ _ h p (by simp)
  have ho : right o = true := by
    unfold right at h ⊢
    rw [okP_append, Bool.and_eq_true] at h
    exact h.1
  have e : book (o ++ [p]) = (book o).set p.n.toNat p.d := by
    apply List.ext_getElem?
    intro i
    rw [List.getElem?_set, book_len]
    by_cases hi : i < 32
    · rw [book_get _ hi, find_snoc o p (-1) i h]
      by_cases hpi : p.n.toNat = i
      · rw [if_pos (by omega), if_pos hpi, if_pos (by omega)]
      · rw [if_neg (by omega), if_neg hpi, book_get _ hi]
    · rw [List.getElem?_eq_none (by rw [book_len]; omega), if_neg (by omega), List.getElem?_eq_none (by rw [book_len]; omega)]
  unfold body lay
  rw [e, flat_set 32 _ _ _ (book_fine ho) (by rw [book_len]; omega) hp.2.2.1, hp.2.2.1]
theorem right_init {o : List Pg} {p : Pg} (h : right (o ++ [p]) = true) : right o = true := by
  unfold right at h ⊢
  rw [okP_append, Bool.and_eq_true] at h
  exact h.1
theorem right_take {o : List Pg} (h : right o = true) (k : Nat) : right (o.take k) = true := by
  unfold right at h ⊢
  rw [← List.take_append_drop k o, okP_append, Bool.and_eq_true] at h
  exact h.1

/-- A byte of an object: page by page. -/
theorem body_get {o : List Pg} (h : right o = true) {x : Nat} (hx : x < 1024) : (body o)[x]? = (find o (x / 32))[x % 32]? := by
  have hl := find_len o (-1) (x / 32) h
  have hm : x % 32 < 32 := Nat.mod_lt _ (by decide)
  have := flat_at 32 (book o) (x / 32) (x % 32) (find o (x / 32)) ((find o (x / 32))[x % 32]'(by omega)) (book_fine h) (book_get o (by omega)) (List.getElem?_eq_getElem _)
  rw [show x / 32 * 32 + x % 32 = x by omega] at this
  rw [List.getElem?_eq_getElem (l := find o (x / 32)) (by omega)]
  exact this

/-- Where bytes end: the last one that isn't nought. -/
def IsEnd (b : List UInt8) (n : Nat) : Prop := n ≤ b.length ∧ (∀ i, n ≤ i → b.getD i 0 = 0) ∧ (n = 0 ∨ b.getD (n - 1) 0 ≠ 0)
theorem IsEnd.unique {b : List UInt8} {n m : Nat} (h : IsEnd b n) (k : IsEnd b m) : n = m := by
  obtain ⟨_, h2, h3⟩ := h
  obtain ⟨_, k2, k3⟩ := k
  apply Decidable.byContradiction
  intro hne
  rcases Nat.lt_or_gt_of_ne hne with hlt | hlt
  · rcases k3 with k3 | k3
    · omega
    · exact k3 (h2 _ (by omega))
  · rcases h3 with h3 | h3
    · omega
    · exact h3 (k2 _ (by omega))

/-- Noughts at the end taken away. -/
def rtrim (l : List UInt8) : List UInt8 := (l.reverse.dropWhile (· == 0)).reverse
theorem rtrim_snoc (l : List UInt8) (x : UInt8) : rtrim (l ++ [x]) = if x = 0 then rtrim l else l ++ [x] := by
  unfold rtrim
  rw [List.reverse_append, List.reverse_singleton, List.singleton_append, List.dropWhile_cons]
  by_cases h : x = 0
  · subst h; simp
  · have : (x == 0) = false := by simpa using h
    rw [this, if_neg h]
    simp
theorem rtrim_end (l : List UInt8) : IsEnd l (rtrim l).length := by
  refine snoc_ind (p := fun l => IsEnd l (rtrim l).length) ⟨Nat.le_refl _, fun i _ => by simp, .inl rfl⟩ (fun l x ih => ?_) l
  obtain ⟨h1, h2, h3⟩ := ih
  rw [rtrim_snoc]
  split
  · rename_i hx
    subst hx
    refine ⟨by simp; omega, fun i hi => ?_, ?_⟩
    · by_cases hil : i < l.length
      · rw [List.getD_eq_getElem?_getD, List.getElem?_append_left hil, ← List.getD_eq_getElem?_getD]
        exact h2 i hi
      · rw [List.getD_eq_getElem?_getD, List.getElem?_append_right (by omega)]
        cases hj : i - l.length with
        | zero => rfl
        | succ j => rfl
    · rcases h3 with h3 | h3
      · exact .inl h3
      · refine .inr ?_
        by_cases hn : (rtrim l).length = 0
        · intro _
          have := h3
          rw [hn] at this
          by_cases hl : 0 < l.length
          · exact this (h2 0 (by omega))
          · have : l = [] := List.eq_nil_of_length_eq_zero (by omega)
            subst this
            simp at h3
        · rw [List.getD_eq_getElem?_getD, List.getElem?_append_left (by omega), ← List.getD_eq_getElem?_getD]
          exact h3
  · rename_i hx
    refine ⟨Nat.le_refl _, fun i hi => ?_, .inr ?_⟩
    · rw [List.getD_eq_getElem?_getD, List.getElem?_eq_none hi]; rfl
    · rw [List.getD_eq_getElem?_getD, List.length_append, List.length_singleton, Nat.add_sub_cancel, List.getElem?_append_right (Nat.le_refl _), Nat.sub_self]
      exact hx
theorem rtrim_some {l : List UInt8} (h : allZ l = false) : rtrim l ≠ [] := by
  intro h0
  have e := rtrim_end l
  rw [h0] at e
  have : allZ l = true := by
    unfold allZ
    rw [List.all_eq_true]
    intro x hx
    obtain ⟨i, hi, rfl⟩ := List.getElem_of_mem hx
    have := e.2.1 i (Nat.zero_le _)
    rw [List.getD_eq_getElem?_getD, List.getElem?_eq_getElem hi] at this
    simpa using this
  rw [h] at this
  cases this
theorem find_top : ∀ (o : List Pg) (l : Int) (k : Nat), okP l o = true → top l o < (k : Int) → find o k = zs 32
  | [], _, _, _, _ => rfl
  | p :: r, l, k, h, hk => by
    obtain ⟨h1, h2, h3, h4, h5⟩ := okP_cons.1 h
    have := okP_top r p.n h5
    rw [top] at hk
    rw [find, if_neg (by omega)]
    exact find_top r p.n k h5 hk
theorem getD_of {α : Type} {l m : List α} {i j : Nat} {d : α} (h : l[i]? = m[j]?) : l.getD i d = m.getD j d := by
  rw [List.getD_eq_getElem?_getD, List.getD_eq_getElem?_getD, h]
theorem zs_getD (n i : Nat) : (zs n).getD i 0 = 0 := by
  unfold zs
  rw [List.getD_eq_getElem?_getD, List.getElem?_replicate]
  split <;> rfl
/-- Where an object's bytes end. -/
theorem length_last {o : List Pg} {p : Pg} (h : right (o ++ [p]) = true) : IsEnd (body (o ++ [p])) (p.n.toNat * 32 + (rtrim p.d).length) := by
  have hp := okP_mem _ _ h p (by simp)
  have ho := right_init h
  obtain ⟨e1, e2, e3⟩ := rtrim_end p.d
  have hs := rtrim_some hp.2.2.2
  have hb := body_len h
  have hl : 0 < (rtrim p.d).length := List.length_pos_iff.2 hs
  have hfp : find (o ++ [p]) p.n.toNat = p.d := by rw [find_snoc o p (-1) _ h, if_pos (by omega)]
  refine ⟨by rw [hb]; omega, fun i hi => ?_, .inr ?_⟩
  · by_cases hx : i < 1024
    · rw [getD_of (body_get h hx)]
      by_cases hk : i / 32 = p.n.toNat
      · rw [hk, hfp]
        exact e2 _ (by omega)
      · rw [find_top _ (-1) _ h (by rw [top_append, top, top]; omega)]
        exact zs_getD _ _
    · rw [List.getD_eq_getElem?_getD, List.getElem?_eq_none (by omega)]
      rfl
  · rw [getD_of (body_get h (by omega)), show (p.n.toNat * 32 + (rtrim p.d).length - 1) / 32 = p.n.toNat by omega, show (p.n.toNat * 32 + (rtrim p.d).length - 1) % 32 = (rtrim p.d).length - 1 by omega, hfp]
    rcases e3 with e3 | e3
    · omega
    · exact e3
theorem length_nil : IsEnd (body []) 0 := by
  rw [body_nil]
  exact ⟨Nat.zero_le _, fun i _ => zs_getD _ _, .inl rfl⟩

/-- Bytes behind a size taken away. -/
def cutB (b : List UInt8) (m : Nat) : List UInt8 := b.take m ++ zs (1024 - m)
theorem cutB_len {b : List UInt8} (h : b.length = 1024) {m : Nat} (hm : m ≤ 1024) : (cutB b m).length = 1024 := by
  simp only [cutB, List.length_append, List.length_take, zs_length]
  omega
theorem cutB_get {b : List UInt8} (h : b.length = 1024) {m : Nat} (hm : m ≤ 1024) (i : Nat) : (cutB b m).getD i 0 = if i < m then b.getD i 0 else 0 := by
  unfold cutB
  rw [List.getD_eq_getElem?_getD]
  by_cases hi : i < m
  · rw [if_pos hi, List.getElem?_append_left (by rw [List.length_take]; omega), List.getElem?_take, if_pos hi, List.getD_eq_getElem?_getD]
  · rw [if_neg hi, List.getElem?_append_right (by rw [List.length_take]; omega), ← List.getD_eq_getElem?_getD]
    exact zs_getD _ _
theorem bytes_ext {b c : List UInt8} (h : b.length = c.length) (he : ∀ i, b.getD i 0 = c.getD i 0) : b = c := by
  apply List.ext_getElem h
  intro i h1 h2
  have := he i
  rw [List.getD_eq_getElem?_getD, List.getD_eq_getElem?_getD, List.getElem?_eq_getElem h1, List.getElem?_eq_getElem h2] at this
  exact this
theorem cut_end {b : List UInt8} (h : b.length = 1024) {m n k : Nat} (hm : m ≤ 1024) (hn : IsEnd b n) (hk : IsEnd (cutB b m) k) : k ≤ m ∧ k ≤ n := by
  have key : ∀ j, (∀ i, j ≤ i → (cutB b m).getD i 0 = 0) → k ≤ j := fun j hj => by
    rcases hk.2.2 with h0 | h0
    · omega
    · apply Decidable.byContradiction
      intro hlt
      exact h0 (hj _ (by omega))
  refine ⟨key m fun i hi => by rw [cutB_get h hm, if_neg (by omega)], key n fun i hi => ?_⟩
  rw [cutB_get h hm]
  split
  · exact hn.2.1 i hi
  · rfl
theorem cut_cut {b : List UInt8} (h : b.length = 1024) {m n : Nat} (hm : m ≤ 1024) (hn : IsEnd b n) : cutB (cutB b m) (min n 1024) = cutB b m := by
  have h1 := cutB_len h hm
  refine bytes_ext (by rw [cutB_len h1 (by omega), h1]) fun i => ?_
  rw [cutB_get h1 (by omega)]
  split
  · rfl
  · rename_i hi
    rw [cutB_get h hm]
    split
    · by_cases hin : n ≤ i
      · exact (hn.2.1 i hin).symm
      · rw [List.getD_eq_getElem?_getD, List.getElem?_eq_none (by omega)]; rfl
    · rfl
theorem cut_past {b : List UInt8} (h : b.length = 1024) {m n : Nat} (hm : m ≤ 1024) (hn : IsEnd b n) (hnm : n ≤ m) : cutB b m = b := by
  refine bytes_ext (by rw [cutB_len h hm, h]) fun i => ?_
  rw [cutB_get h hm]
  split
  · rfl
  · exact (hn.2.1 i (by omega)).symm

/-- What leads from one object to another one. -/
def keyF (f : List UInt8) (n : Nat) : List UInt8 := f ++ [0, UInt8.ofNat n]
def chgF (fl : List UInt8) (f g : Nat → List UInt8) : Nat → List Ch
  | 0 => []
  | k + 1 => if g k = f k then chgF fl f g k else if allZ (g k) then chgF fl f g k ++ [⟨keyF fl k, [], true⟩] else chgF fl f g k ++ [⟨keyF fl k, g k, false⟩]
theorem chgF_len (fl : List UInt8) (f g : Nat → List UInt8) : ∀ k, (chgF fl f g k).length ≤ k
  | 0 => Nat.le_refl _
  | k + 1 => by
    have := chgF_len fl f g k
    rw [chgF]
    split
    · omega
    · split <;> simp <;> omega
theorem chgF_congr (fl : List UInt8) {f g f' g' : Nat → List UInt8} : ∀ k, (∀ j, j < k → f j = f' j) → (∀ j, j < k → g j = g' j) → chgF fl f g k = chgF fl f' g' k
  | 0, _, _ => rfl
  | k + 1, h1, h2 => by rw [chgF, chgF, chgF_congr fl k (fun j hj => h1 j (by omega)) (fun j hj => h2 j (by omega)), h1 k (by omega), h2 k (by omega)]
/-- A page's bytes: none where there is none. -/
def findS (o : List Pg) (k : Nat) : List UInt8 := if allZ (find o k) then [] else find o k

end Go.Proofs.YtchlcmgdfbabdaaGreatDoor.Pgs
