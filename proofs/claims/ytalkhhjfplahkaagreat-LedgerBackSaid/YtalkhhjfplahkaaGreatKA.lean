/- Joined: Mem, App, Pure, Pure2. -/
import Derived.Below
import Derived.Maps.AppendAt
import Derived.Laws.IdiomStrings
import Derived.Deep.Draws
import Derived.Deep.OwnRows
import Derived.ChangeSame
import Derived.Lib.Hide
import Derived.RegionTactic
import Derived.WalkKit
import Derived.OwnWalk
namespace Go.Proofs.YtalkhhjfplahkaaGreat
open Go.RowKit Go.WideShapes Go.ChangeShapes

/-- The value of a byte. -/
def byteV (b : UInt8) : Value := .int .u8 (b.toNat : Int)
def byteVs (l : List UInt8) : List Value := l.map byteV
theorem byteVs_length (l : List UInt8) : (byteVs l).length = l.length := by simp [byteVs]
theorem byteVs_append (l m : List UInt8) : byteVs (l ++ m) = byteVs l ++ byteVs m := by simp [byteVs]
theorem byteVs_one (l : List UInt8) : ∀ u ∈ byteVs l, u.oneCell' = true := by
  intro u hu
  simp only [byteVs, List.mem_map] at hu
  obtain ⟨b, _, rfl⟩ := hu
  rfl

/-- Of the blocks that were there, those of S alone may have turned. -/
structure Only (S : List Nat) (w w' : World) : Prop where
  os : w'.os = w.os
  tape : w'.tape = w.tape
  output : w'.output = w.output
  size : w.heap.size ≤ w'.heap.size
  block : ∀ k, k < w.heap.size → k ∉ S → w'.heap[k]? = w.heap[k]?

section
variable {S T : List Nat} {a w w' : World}
theorem Only.refl (S : List Nat) (w : World) : Only S w w := ⟨rfl, rfl, rfl, Nat.le_refl _, fun _ _ _ => rfl⟩
/-- Two steps; the second one may turn what is new, too. -/
theorem Only.then (h : Only S a w) (k : Only T w w') (hT : ∀ i ∈ T, i ∈ S ∨ a.heap.size ≤ i) : Only S a w' :=
  ⟨k.os.trans h.os, k.tape.trans h.tape, k.output.trans h.output, Nat.le_trans h.size k.size,
    fun i hi hn => (k.block i (Nat.lt_of_lt_of_le hi h.size) (fun hm => by rcases hT i hm with h1 | h1; exact hn h1; omega)).trans (h.block i hi hn)⟩
theorem Only.trans (h : Only S a w) (k : Only S w w') : Only S a w' := h.then k fun _ hi => .inl hi
theorem Only.more (h : Only S a w) (hS : ∀ i ∈ S, i ∈ T ∨ a.heap.size ≤ i) : Only T a w :=
  ⟨h.os, h.tape, h.output, h.size, fun i hi hn => h.block i hi (fun hm => by rcases hS i hm with h1 | h1; exact hn h1; omega)⟩
theorem Only.alloc (h : Only S a w) (o : Obj) : Only S a (w.alloc o) :=
  ⟨h.os, h.tape, h.output, Nat.le_trans h.size (by simp), fun i hi hn => (Below.heap_alloc w o i (Nat.lt_of_lt_of_le hi h.size)).trans (h.block i hi hn)⟩
theorem Only.drew (h : Only S a w) : Only S a w.drew := ⟨h.os, h.tape, h.output, h.size, h.block⟩
theorem Only.drewN (h : Only S a w) (n : Nat) : Only S a (w.drewN n) := ⟨h.os, h.tape, h.output, h.size, h.block⟩
theorem Only.setCell (h : Only S a w) {p : Addr} (hp : p.block ∈ S ∨ a.heap.size ≤ p.block) (u : Value) : Only S a (w.setCell p u) :=
  ⟨h.os, h.tape, h.output, by simpa [World.setCell] using h.size, fun i hi hn => (Below.heap_setCell w p u i (by
    rintro rfl
    rcases hp with hp | hp
    · exact hn hp
    · omega)).trans (h.block i hi hn)⟩
theorem Only.grown (h : Only S a w) {row : Option Nat} (hg : w.grownBy w' row) (hr : ∀ k, row = some k → k ∈ S ∨ a.heap.size ≤ k) : Only S a w' :=
  ⟨hg.os.trans h.os, hg.tape.trans h.tape, hg.output.trans h.output, Nat.le_trans h.size hg.size,
    fun i hi hn => (hg.block i (Nat.lt_of_lt_of_le hi h.size) (fun e => by rcases hr i e.symm with h1 | h1; exact hn h1; omega)).trans (h.block i hi hn)⟩
theorem Only.below (h : Only S w w') {B : Nat} (hB : B ≤ w.heap.size) (hS : ∀ i ∈ S, B ≤ i) : Below B w w' :=
  ⟨h.os, h.tape, h.output, h.size, fun k hk => h.block k (by omega) (fun hm => by have := hS k hm; omega)⟩
theorem Only.of_below (h : Below w.heap.size w w') (S : List Nat) : Only S w w' := ⟨h.os, h.tape, h.output, h.size, fun k hk _ => h.block k hk⟩
theorem Only.cell (h : Only S w w') {p : Addr} {v : Value} (hc : w.cell? p = some v) (hp : p.block ∉ S) : w'.cell? p = some v :=
  (World.cell?_of_block (w := w) (h.block p.block (World.block_lt_of_cell? w p hc) hp)).trans hc
end

/-- Block g is just the cells cs, of type t; none is frozen. -/
def Blk (w : World) (g : Nat) (t : TypeId) (cs : Array Value) : Prop := w.heap[g]? = some (.cells cs t (0, 0))

section
variable {S : List Nat} {w w' : World} {g : Nat} {t : TypeId} {cs : Array Value}
theorem Blk.lt (h : Blk w g t cs) : g < w.heap.size := by
  unfold Blk at h
  exact (Array.getElem?_eq_some_iff.1 h).1
theorem Blk.cell (h : Blk w g t cs) (i : Nat) : w.cell? ⟨g, i, none⟩ = cs[i]? := cell_of_row w g i cs t (0, 0) h
theorem Blk.free (h : Blk w g t cs) (i : Nat) : w.frozen? ⟨g, i, none⟩ = false := by
  unfold Blk at h
  simp [World.frozen?, h]
theorem Blk.new (w : World) (t : TypeId) (cs : Array Value) : Blk (w.alloc (.cells cs t)) w.heap.size t cs := heap_alloc_new w _
theorem Blk.kept (h : Blk w g t cs) (k : Only S w w') (hg : g ∉ S) : Blk w' g t cs := (k.block g h.lt hg).trans h
theorem Blk.set (h : Blk w g t cs) (i : Nat) (u : Value) : Blk (w.setCell ⟨g, i, none⟩ u) g t (cs.setIfInBounds i u) := by
  unfold Blk at h ⊢
  simp [World.setCell, Array.getElem?_modify, h]
theorem Blk.alloc (h : Blk w g t cs) (o : Obj) : Blk (w.alloc o) g t cs := (Below.heap_alloc w o g h.lt).trans h
end

/-- From place o of block g on lie the bytes l. -/
def BytesAt (w : World) (g o : Nat) (l : List UInt8) : Prop := ∀ j (h : j < l.length), w.cell? ⟨g, o + j, none⟩ = some (byteV l[j])

section
variable {S : List Nat} {w w' : World} {g o : Nat} {l : List UInt8}
theorem BytesAt.kept (h : BytesAt w g o l) (k : Only S w w') (hg : g ∉ S) : BytesAt w' g o l := fun j hj => k.cell (h j hj) hg
theorem BytesAt.drop (h : BytesAt w g o l) (n : Nat) : BytesAt w g (o + n) (l.drop n) := fun j hj => by
  have hj' : n + j < l.length := by simp at hj; omega
  rw [Nat.add_assoc, h (n + j) hj']
  simp
theorem BytesAt.take (h : BytesAt w g o l) (n : Nat) : BytesAt w g o (l.take n) := fun j hj => by
  have hj' : j < l.length := by simp at hj; omega
  rw [h j hj']
  simp
theorem BytesAt.nil (w : World) (g o : Nat) : BytesAt w g o [] := fun j hj => absurd hj (by simp)
end

section
variable {H : Type} {enc : TypeId × Value → H} {P : Program}
/-- The row's last step, where of the world behind the call no more is known than what it leaves alone. -/
theorem post_of_only {f : Func} {s : ChangeSpec} {apart fresh handsOn again : Bool} {W W' : World} {args : Array Value} {v : Value} {ds gs : List (DataW H)} {before pa pv : List MemPlace}
    (hW : DataW.Whole enc P f.params.toList s.vars apart W args.toList ds gs before)
    (hres : ∀ (b : Nat) (sp : Nat → Bool) (hd : Bool), DataW.TrodAll enc P W' b sp hd f.resultTypes.toList (v.resultList f.resultTypes.size) (s.fn H (ds ++ gs)).results [])
    (hargs : ∀ sp : Nat → Bool, (∀ p ∈ before, sp p.block = true) → DataW.TrodAll enc P W' 0 sp true f.params.toList args.toList (s.fn H (ds ++ gs)).args pa)
    (hvars : ∀ sp : Nat → Bool, (∀ p ∈ before, sp p.block = true) → DataW.TrodVars enc P W' sp s.vars (s.fn H (ds ++ gs)).vars pv)
    (hps : before = pa ++ pv) (hb : Below W.heap.size W W')
    (hok : ∀ (j : Nat) (t : TypeId) (r : Value), f.resultTypes[j]? = some t → (v.resultList f.resultTypes.size)[j]? = some r → Value.okWide P W' .any 0 t r) :
    s.post enc P f apart fresh handsOn again W args v W' := by
  have hin : ∀ p ∈ before, p.block < W.heap.size := fun p hp => hW.lt p hp
  have hsp : ∀ p ∈ before, (fun b => decide (b < W.heap.size)) p.block = true := fun p hp => by simpa using hin p hp
  have hk : W.keptBut W' fun p => p ∈ before ∧ p ∉ pa ++ pv := hb.frame _
  refine ⟨ds, gs, before, [], pa, pv, hW, hres _ _ _, hargs _ hsp, hvars _ hsp, World.keptBut_mono (fun p hp => (hp.2 (by rw [← hps]; exact hp.1)).elim) hk, fun _ => ?_⟩
  obtain ⟨_, _, _, _, _, hz, hn⟩ := hW
  refine ⟨hok, _, _, ([] ++ pa) ++ pv, ⟨[] ++ pa, pv, trodAll_append (hargs _ (fun _ _ => rfl)) (hres _ _ _), hvars _ (fun _ _ => rfl), rfl, ?_, ?_⟩, ?_⟩
  · intro b off hp
    have hm : MemPlace.cell b off ∈ before := by rw [hps]; simpa using hp
    rw [hb.frozen (hin _ hm)]
    exact hz b off hm
  · intro ha
    have h0 := hn ha
    rw [hps] at h0
    simpa using h0
  · intro p hp _
    rw [hps]
    simpa using hp
end

end Go.Proofs.YtalkhhjfplahkaaGreat
namespace Go.Proofs.YtalkhhjfplahkaaGreat
open Go.RowKit

/-- The slice v reads as the m one-cell values news. -/
def SrcV (w : World) (v : Value) (m : Nat) (news : List Value) : Prop :=
  ∃ A c, v = .slice A m c ∧ news.length = m ∧ (m = 0 ∨ ∃ ad, A = some ad ∧ ∀ j u, news[j]? = some u → w.cell? (ad.add j) = some u)

theorem SrcV.kept {S : List Nat} {w w' : World} {A : Option Addr} {m c : Nat} {news : List Value} (h : SrcV w (.slice A m c) m news) (k : Only S w w') (hg : ∀ a, A = some a → a.block ∉ S) : SrcV w' (.slice A m c) m news := by
  obtain ⟨A', c', he, hl, hs⟩ := h
  injection he with h1 h2 h3
  subst h1; subst h3
  refine ⟨A, c, rfl, hl, hs.imp id ?_⟩
  rintro ⟨ad, rfl, hc⟩
  refine ⟨ad, rfl, fun j u hu => k.cell (hc j u hu) ?_⟩
  have : (ad.add j).block = ad.block := by unfold Addr.add; split <;> rfl
  rw [this]
  exact hg ad rfl

theorem addr_add (g o j : Nat) : (⟨g, o, none⟩ : Addr).add j = ⟨g, o + j, none⟩ := by unfold Addr.add; split <;> simp_all

theorem SrcV.of_bytes {w : World} {g o : Nat} {l : List UInt8} (c : Nat) (h : BytesAt w g o l) : SrcV w (.slice (some ⟨g, o, none⟩) l.length c) l.length (byteVs l) := by
  refine ⟨_, _, rfl, byteVs_length l, .inr ⟨_, rfl, fun j u hu => ?_⟩⟩
  rw [addr_add]
  have hj : j < l.length := by have := (List.getElem?_eq_some_iff.1 hu).1; simpa [byteVs] using this
  rw [h j hj]
  simp [byteVs, List.getElem?_eq_getElem hj] at hu
  rw [← hu]

section
variable {P : Program} (w : World)

theorem run_append_src (t ty e : TypeId) (i : TypeInfo) (z : Value) (bytes : Nat) (ht : P.underlying t = some (.slice e)) (hi : P.info? e = some i) (hz : i.zero = some z)
    (hsize : i.size = 1) (hby : i.bytes = bytes) (hzs : z.cells.size = 1) (v : Value) (n : Nat) (xs : List Value) (hown : w.ownsRow 0 e 1 v n xs)
    (x : Value) (m : Nat) (news : List Value) (hsrc : SrcV w x m news) (h1 : ∀ u ∈ news, u.oneCell' = true) (h63 : n + m ≤ maxLen) (hbytes : (n + m) * bytes ≤ 140737488355328) :
    ∃ v' w', (Builtin.append_ #[t, t] ty #[v, x]).run P w = .ok v' w' ∧ w'.ownsRow 0 e 1 v' (n + m) (xs ++ news) ∧ w.grownBy w' v.ownBlock ∧
      (v'.ownBlock = v.ownBlock ∨ v'.ownBlock = some w.heap.size) := by
  obtain ⟨A, c, rfl, hl, hs⟩ := hsrc
  have go : ∀ ad : Addr, A = some ad → (∀ j u, news[j]? = some u → w.cell? (ad.add j) = some u) → ∃ v' w', (Builtin.append_ #[t, t] ty #[v, .slice A m c]).run P w = .ok v' w' ∧ w'.ownsRow 0 e 1 v' (n + m) (xs ++ news) ∧ w.grownBy w' v.ownBlock ∧
      (v'.ownBlock = v.ownBlock ∨ v'.ownBlock = some w.heap.size) := by
    intro ad hA hc
    obtain ⟨v', w', hr, h2, h3, _, h5⟩ := run_append_own_at (P := P) w 0 t ty e i z 1 bytes ht hi hz hsize hby hzs Nat.one_pos v n xs hown ad m c news (by simpa using hl) hc h1 h63 hbytes (Nat.zero_le _)
    subst hA
    exact ⟨v', w', hr, h2, h3, h5⟩
  rcases hs with rfl | ⟨ad, hA, hc⟩
  · obtain rfl : news = [] := List.eq_nil_of_length_eq_zero hl
    cases hA : A with
    | some ad => rw [← hA]; exact go ad hA (by intro j u hu; simp at hu)
    | none =>
      refine ⟨v, w, ?_, by simpa using hown, World.grownBy.refl w _, .inl rfl⟩
      rcases hown.2 with ⟨rfl, rfl⟩ | ⟨g, cap, cur, rfl, _, _, hnc, _⟩
      · simp [Builtin.append_, run_underlying ht, sizeOf, typeInfo, hi, Builtin.lenOf, Builtin.firstCells]
      · simp [Builtin.append_, run_underlying ht, sizeOf, typeInfo, hi, Builtin.lenOf, Builtin.firstCells, hnc, storeCells]
  · exact go ad hA hc

theorem wpList_append_src {ops : Array Oper} {rest : List Oper} {o : Oper} {a : Act} {Q : Exit → Act → World → Prop} (hgd : o.guard = none) (s y : Operand) (t : TypeId)
    (ho : o.op = .call { callee := .builtin .append, args := #[s, y], argTypes := #[t, t] })
    (e : TypeId) (z : Value) (bytes : Nat) (ht : P.underlying t = some (.slice e)) (hinfo : (P.info? e).map (fun i => (i.zero, i.size, i.bytes)) = some (some z, 1, bytes)) (hzs : z.cells.size = 1)
    (v : Value) (n : Nat) (xs : List Value) (hs : a.eval s = v) (hown : w.ownsRow 0 e 1 v n xs)
    (x : Value) (m : Nat) (news : List Value) (hx : a.eval y = x) (hsrc : SrcV w x m news) (h1 : ∀ u ∈ news, u.oneCell' = true)
    (h63 : n + m ≤ maxLen) (hbytes : (n + m) * bytes ≤ 140737488355328)
    (h : ∀ v' w', w'.ownsRow 0 e 1 v' (n + m) (xs ++ news) → w.grownBy w' v.ownBlock → (v'.ownBlock = v.ownBlock ∨ v'.ownBlock = some w.heap.size) → wpList P ops Q rest (a.put o.dst v') w') : wpList P ops Q (o :: rest) a w := by
  refine wpList_plain hgd fun K hK => ?_
  obtain ⟨i, hi, hz0, hz1, hz2⟩ := info_parts hinfo
  obtain ⟨v', w', hrun, h2, h3, h4⟩ := run_append_src (P := P) w t o.type e i z bytes ht hi hz0 hz1 hz2 hzs v n xs hown x m news hsrc h1 h63 hbytes
  unfold Oper.wp execOp
  simp only [ho, resolve, invoke, builtin, Sem.run_bind, Sem.run_pure, Result.andThen_ok, List.map_toArray, List.map_cons, List.map_nil, hs, hx, hrun]
  exact hK _ _ (h v' w' h2 h3 h4)
end

theorem ownsRow_far {w : World} {e : TypeId} {v : Value} {n : Nat} {xs : List Value} (h : w.ownsRow 0 e 1 v n xs) {a : Addr} (ha : v.ownBlock ≠ some a.block) (u : Value) : (w.setCell a u).ownsRow 0 e 1 v n xs := by
  refine h.kept (row := some a.block) ⟨rfl, rfl, rfl, by simp [World.setCell], fun k _ hk => Below.heap_setCell _ _ _ _ (fun e => hk (by rw [e]))⟩ (.inr ha)

theorem ownsRow_kept {S : List Nat} {w w' : World} {e : TypeId} {v : Value} {n : Nat} {xs : List Value} (h : w.ownsRow 0 e 1 v n xs) (k : Only S w w') (hv : ∀ g, v.ownBlock = some g → g ∉ S) : w'.ownsRow 0 e 1 v n xs := by
  refine ⟨h.1, ?_⟩
  rcases h.2 with h0 | ⟨g, cap, cur, rfl, hb, hg, r⟩
  · exact .inl h0
  · exact .inr ⟨g, cap, cur, rfl, hb, by rw [k.block g (Array.getElem?_eq_some_iff.1 hg).1 (hv g rfl)]; exact hg, r⟩

theorem ownsRow_slice {w : World} {e : TypeId} {v : Value} {n : Nat} {xs : List Value} (h : w.ownsRow 0 e 1 v n xs) : ∃ A c, v = .slice A n c := by
  rcases h.2 with ⟨rfl, rfl⟩ | ⟨g, cap, cur, rfl, _⟩
  · exact ⟨_, _, rfl⟩
  · exact ⟨_, _, rfl⟩

theorem ownsRow_src {w : World} {e : TypeId} {v : Value} {n : Nat} {xs : List Value} (h : w.ownsRow 0 e 1 v n xs) : SrcV w v n xs := by
  rcases id h.2 with ⟨rfl, rfl⟩ | ⟨g, cap, cur, rfl, _, _, _⟩
  · exact ⟨none, 0, rfl, by simpa using h.1, .inl rfl⟩
  · exact ⟨_, _, rfl, by simpa using h.1, .inr ⟨_, rfl, h.cells rfl⟩⟩

/-- A string's bytes. -/
def strOf (l : List UInt8) : ByteArray := ⟨l.toArray⟩
theorem strOf_toList (s : ByteArray) : strOf s.data.toList = s := by cases s; simp [strOf]
theorem strOf_list (l : List UInt8) : (strOf l).data.toList = l := by simp [strOf]
theorem strOf_size (l : List UInt8) : (strOf l).size = l.length := by simp [strOf, ByteArray.size]

theorem SrcV.bytes {w : World} {A : Option Addr} {m c : Nat} {l : List UInt8} (h : SrcV w (.slice A m c) m (byteVs l)) : l.length = m ∧ (m = 0 ∨ ∃ ad, A = some ad ∧ ∀ j (hj : j < l.length), w.cell? (ad.add j) = some (.int .u8 (l[j].toNat : Int))) := by
  obtain ⟨A', c', he, hl, hs⟩ := h
  injection he with h1 _ _
  subst h1
  refine ⟨by simpa [byteVs] using hl, hs.imp id ?_⟩
  rintro ⟨ad, rfl, hc⟩
  exact ⟨ad, rfl, fun j hj => hc j _ (by simp only [byteVs, List.getElem?_map, List.getElem?_eq_getElem hj]; rfl)⟩

section
variable {P : Program} (w : World) {ops : Array Oper} {rest : List Oper} {o : Oper} {a : Act} {Q : Exit → Act → World → Prop}

/-- '[]byte(s)'. -/
theorem wpList_to_bytes (hgd : o.guard = none) (src dst e : TypeId) (x : Operand) (ho : o.op = .convert src dst x)
    (hs : P.underlying src = some .string) (hd : P.underlying dst = some (.slice e)) (he : P.underlying e = some (.int .u8)) (s : ByteArray) (hx : a.eval x = .string s) (hlen : s.size ≤ maxLen)
    (h : ∀ w' c, Only [] w w' → s.size ≤ c → c ≤ maxLen → BytesAt w' w.heap.size 0 s.data.toList → w.heap.size < w'.heap.size → wpList P ops Q rest (a.put o.dst (.slice (some ⟨w.heap.size, 0, none⟩) s.size c)) w') :
    wpList P ops Q (o :: rest) a w := by
  refine wpList_plain hgd fun K hK => ?_
  have hr := run_bytes_of_string (P := P) w src dst e s hs hd he
  unfold Oper.wp
  simp [execOp, ho, hx, hr, Result.andThen]
  refine hK _ _ (h _ _ ((Only.refl [] w).drew.alloc _) (grownCap_ge w s.size 0 e) (grownCap_le_maxLen w s.size 0 e hlen) (fun j hj => ?_) (by simp))
  have hj' : j < s.data.size := by simpa using hj
  rw [Nat.zero_add]
  have := World.cell?_alloc_mark w.drew (bytesRow s (grownCap w s.size 0 e)) e ((bytesRow s (grownCap w s.size 0 e)).size, (bytesRow s (grownCap w s.size 0 e)).size + 1) j
  rw [bytesRow_at s _ j hj'] at this
  simpa [byteV] using this

/-- 'string(b)'. -/
theorem wpList_to_string (hgd : o.guard = none) (src dst e : TypeId) (x : Operand) (ho : o.op = .convert src dst x)
    (hs : P.underlying src = some (.slice e)) (he : P.underlying e = some (.int .u8)) (hd : P.underlying dst = some .string) (A : Option Addr) (m c : Nat) (l : List UInt8) (hx : a.eval x = .slice A m c)
    (hsrc : SrcV w (.slice A m c) m (byteVs l)) (h : wpList P ops Q rest (a.put o.dst (.string (strOf l))) w) : wpList P ops Q (o :: rest) a w := by
  refine wpList_plain hgd fun K hK => ?_
  obtain ⟨hl, hc⟩ := hsrc.bytes
  have hr : (convert src dst (.slice A m c)).run P w = .ok (.string (strOf l)) w := by
    cases hA : A with
    | some ad =>
      subst hA
      have hc' : ∀ j (hj : j < l.length), w.cell? (ad.add j) = some (.int .u8 (l[j].toNat : Int)) := by
        rcases hc with h0 | ⟨ad', he', hc⟩
        · intro j hj; omega
        · injection he' with he'; subst he'; exact hc
      have := run_convert_bytes_back (P := P) w src dst e ad c l hs he hd hc'
      rw [hl] at this
      exact this
    | none =>
      have h0 : m = 0 := by rcases hc with h0 | ⟨ad, he', _⟩; exact h0; rw [hA] at he'; cases he'
      obtain rfl : l = [] := List.eq_nil_of_length_eq_zero (by omega)
      rw [run_convert_bytes_string w src dst e none m c hs he hd]
      simp [Conv.bytesToString, strOf]
      rfl
  unfold Oper.wp
  simp [execOp, ho, hx, hr, Result.andThen]
  exact hK _ _ h

theorem madeCells_bytes (n : Nat) : (madeCells #[Value.int .u8 0] n).toList = byteVs (List.replicate n 0) := by
  rw [toList_madeCells_one]
  simp [byteVs, byteV]
end

/-- 's[m:]' of one-cell elements: the value, but for where it begins if nothing is left. -/
theorem slice_tail {P : Program} (t e : TypeId) (ht : P.underlying t = some (.slice e)) (hz : ∀ w, (Go.sizeOf e).run P w = .ok 1 w) (g o n c m : Nat) (k : IntKind) (x : Int) (hx : x = m) (hm : m ≤ n) :
    ∃ o', (m < c → o' = o + m) ∧ ∀ W : World, (Instr.slice t (.slice (some ⟨g, o, none⟩) n c) (some (.int k x)) none none).run P W = .ok (.slice (some ⟨g, o', none⟩) (n - m) (c - m)) W := by
  subst hx
  have ht' : P.underlying t = some (.slice (P.elem t)) := by simp [Program.elem, ht]
  have he : P.elem t = e := by simp [Program.elem, ht]
  refine ⟨if c = m then o else o + m, fun h => by rw [if_neg (by omega)], fun W => ?_⟩
  rw [run_slice_l W t _ _ _ ht' k _ (by omega) (by omega), he, hz]
  by_cases hc : c = m
  · simp [Result.andThen, sliced, hc]
  · simp [Result.andThen, sliced, hc, addr_add]

/-- 's[m:h]' likewise. -/
theorem slice_part {P : Program} (t e : TypeId) (ht : P.underlying t = some (.slice e)) (hz : ∀ w, (Go.sizeOf e).run P w = .ok 1 w) (g o n c m h : Nat) (k k' : IntKind) (x y : Int) (hx : x = m) (hy : y = h) (hm : m ≤ h) (hh : h ≤ c) :
    ∃ o', (m < c → o' = o + m) ∧ ∀ W : World, (Instr.slice t (.slice (some ⟨g, o, none⟩) n c) (some (.int k x)) (some (.int k' y)) none).run P W = .ok (.slice (some ⟨g, o', none⟩) (h - m) (c - m)) W := by
  subst hx
  subst hy
  have ht' : P.underlying t = some (.slice (P.elem t)) := by simp [Program.elem, ht]
  have he : P.elem t = e := by simp [Program.elem, ht]
  refine ⟨if c = m then o else o + m, fun h => by rw [if_neg (by omega)], fun W => ?_⟩
  rw [run_slice_lh W t _ _ _ ht' k k' _ _ (by omega) (by omega) (by omega), he, hz]
  by_cases hc : c = m
  · simp [Result.andThen, sliced, hc]
  · simp [Result.andThen, sliced, hc, addr_add]

/-- 'make([]T, n)' of one-cell elements: the new block, whole. -/
theorem wpList_make_cells {P : Program} (w : World) {ops : Array Oper} {rest : List Oper} {o : Oper} {a : Act} {Q : Exit → Act → World → Prop}
    (hg : o.guard = none) (l c : Operand) (t : TypeId) (hop : o.op = Op.makeSlice t l c) (e : TypeId) (z : Value) (bytes : Nat) (h1 : P.underlying t = some (.slice e))
    (hinfo : (P.info? e).map (fun i => (i.zero, i.size, i.bytes)) = some (some z, 1, bytes)) (hzs : z.cells = #[z])
    (kl kc : IntKind) (L C : Int) (n : Nat) (hl : a.eval l = .int kl L) (hc : a.eval c = .int kc C) (hL : L = (n : Int)) (hC : C = (n : Int)) (b2 : bytes * n ≤ 281474976710656) (b3 : n ≤ 9223372036854775807)
    (hK : wpList P ops Q rest (a.put o.dst (.slice (some ⟨w.heap.size, 0, none⟩) n n)) (w.alloc (.cells (List.replicate n z).toArray e))) :
    wpList P ops Q (o :: rest) a w := by
  refine wpList_plain hg fun K hK' => ?_
  obtain ⟨i, hi, hz0, hz1, hz2⟩ := info_parts hinfo
  subst hL
  subst hC
  have hb' : (i.bytes : Int) * (n : Int) ≤ 281474976710656 := by
    have h : ((i.bytes * n : Nat) : Int) ≤ 281474976710656 := by rw [hz2]; omega
    rwa [Int.natCast_mul] at h
  have hr := run_make (P := P) w t e i z h1 hi hz0 kl kc n n (by omega) (Int.le_refl _) hb' (by omega)
  simp only [Int.toNat_natCast, hz1, Nat.mul_one] at hr
  have hm : madeCells z.cells n = (List.replicate n z).toArray := by
    rw [← toList_madeCells_one, hzs]
  rw [hm] at hr
  unfold Oper.wp
  simp [execOp, hop, hl, hc, hr, Result.andThen]
  exact hK' _ _ (by simpa using hK)

theorem strOf_append (l m : List UInt8) : strOf l ++ strOf m = strOf (l ++ m) := ByteArray.mk_append_mk l m

/-- 's + t'. -/
theorem wpList_concat {P : Program} (w : World) {ops : Array Oper} {rest : List Oper} {o : Oper} {a : Act} {Q : Exit → Act → World → Prop}
    (hg : o.guard = none) (t u : TypeId) (x y : Operand) (hop : o.op = Op.binOp .add t x y u) (l m : List UInt8) (hx : a.eval x = .string (strOf l)) (hy : a.eval y = .string (strOf m)) (hlen : l.length + m.length ≤ 9223372036854775807)
    (hK : wpList P ops Q rest (a.put o.dst (.string (strOf (l ++ m)))) w) : wpList P ops Q (o :: rest) a w := by
  refine wpList_plain hg fun K hK' => ?_
  have hr : (binOp .add t (.string (strOf l)) (.string (strOf m))).run P w = .ok (.string (strOf (l ++ m))) w := by
    rw [binOp_string_add, run_string_add_sum w _ _ (by rw [strOf_size, strOf_size]; exact hlen), strOf_append]
  unfold Oper.wp
  simp only [execOp, hop, hx, hy, eqGuard_add, Sem.run_bind, Sem.run_pure, Result.andThen_ok, hr]
  exact hK' _ _ hK

def strLen : Value → Nat
  | .string s => s.size
  | _ => 0

end Go.Proofs.YtalkhhjfplahkaaGreat
namespace Go.Proofs.YtalkhhjfplahkaaGreat
open Go.RowKit

/-- A number's four bytes. -/
def be4 (n : Nat) : List UInt8 := [UInt8.ofNat (n / 16777216), UInt8.ofNat (n / 65536), UInt8.ofNat (n / 256), UInt8.ofNat n]
theorem be4_length (n : Nat) : (be4 n).length = 4 := rfl
/-- A long number's eight bytes. -/
def be8 (n : Nat) : List UInt8 := be4 (n / 4294967296) ++ be4 (n % 4294967296)
theorem be8_length (n : Nat) : (be8 n).length = 8 := rfl
/-- How many zero bytes follow n bytes of a text. -/
def padN (n : Nat) : Nat := (4 - n % 4) % 4
def zeros (n : Nat) : List UInt8 := List.replicate n 0
/-- A text's bytes. -/
def encT (s : List UInt8) : List UInt8 := be4 s.length ++ (s ++ zeros (padN s.length))
/-- Numbers, one behind the other. -/
def encNs : List Nat → List UInt8
  | [] => []
  | n :: l => be4 n ++ encNs l
def encL (l : List Nat) : List UInt8 := be4 l.length ++ encNs l

theorem byteV_ofNat (n : Nat) : byteV (UInt8.ofNat n) = .int .u8 ((n % 256 : Nat) : Int) := by
  unfold byteV
  simp

theorem encNs_snoc (l : List Nat) (n : Nat) : encNs (l ++ [n]) = encNs l ++ be4 n := by
  induction l with
  | nil => simp [encNs]
  | cons a l ih => simp [encNs, ih]
theorem encNs_length (l : List Nat) : (encNs l).length = 4 * l.length := by
  induction l with
  | nil => rfl
  | cons a l ih => simp [encNs, be4_length, ih]; omega
theorem encNs_take (l : List Nat) (k : Nat) (h : k < l.length) : encNs (l.take (k + 1)) = encNs (l.take k) ++ be4 l[k] := by
  rw [List.take_succ_eq_append_getElem h, encNs_snoc]
theorem encL_length (l : List Nat) : (encL l).length = 4 + 4 * l.length := by simp [encL, be4_length, encNs_length]
theorem encT_length (l : List UInt8) : (encT l).length = 4 + l.length + padN l.length := by simp [encT, be4_length, zeros]; omega

/-- From place o of block g on lie the numbers l. -/
def NumsAt (w : World) (g o : Nat) (l : List Nat) : Prop := ∀ j (h : j < l.length), w.cell? ⟨g, o + j, none⟩ = some (.int .u32 (l[j] : Int))
theorem NumsAt.kept {S : List Nat} {w w' : World} {g o : Nat} {l : List Nat} (h : NumsAt w g o l) (k : Only S w w') (hg : g ∉ S) : NumsAt w' g o l := fun j hj => k.cell (h j hj) hg

/-- The slice at A reads as the numbers l; its block is none of S. -/
def Nums (w : World) (S : List Nat) (A : Option Addr) (l : List Nat) : Prop := l = [] ∨ ∃ g o, A = some ⟨g, o, none⟩ ∧ g ∉ S ∧ NumsAt w g o l

/-- The number that four bytes are. -/
def decB (a b c d : UInt8) : Nat := a.toNat * 16777216 + b.toNat * 65536 + c.toNat * 256 + d.toNat
theorem decB_lt (a b c d : UInt8) : decB a b c d < 4294967296 := by
  have := a.toNat_lt; have := b.toNat_lt; have := c.toNat_lt; have := d.toNat_lt
  unfold decB; omega
/-- The number that the first four bytes are. -/
def hd4 : List UInt8 → Nat
  | a :: b :: c :: d :: _ => decB a b c d
  | _ => 0
theorem hd4_lt (l : List UInt8) : hd4 l < 4294967296 := by
  unfold hd4
  split
  · exact decB_lt _ _ _ _
  · omega
theorem four (l : List UInt8) (h : 4 ≤ l.length) : ∃ a b c d r, l = a :: b :: c :: d :: r := by
  match l, h with
  | a :: b :: c :: d :: r, _ => exact ⟨a, b, c, d, r, rfl⟩

/-- The numbers that 4n bytes are. -/
def decNs : Nat → List UInt8 → List Nat
  | 0, _ => []
  | n + 1, l => hd4 l :: decNs n (l.drop 4)

theorem decNs_length (n : Nat) (l : List UInt8) : (decNs n l).length = n := by
  induction n generalizing l with
  | zero => rfl
  | succ n ih => simp [decNs, ih]
theorem decNs_get (n : Nat) (l : List UInt8) (j : Nat) (h : j < (decNs n l).length) : (decNs n l)[j] = hd4 (l.drop (4 * j)) := by
  induction n generalizing l j with
  | zero => simp [decNs] at h
  | succ n ih =>
    cases j with
    | zero => simp [decNs]
    | succ j =>
      simp only [decNs, List.getElem_cons_succ]
      rw [ih, List.drop_drop]
      congr 2
      omega
theorem hd4_take (n : Nat) (l : List UInt8) : hd4 (l.take (n + 4)) = hd4 l := by
  match l with
  | [] => rfl
  | [a] => rfl
  | [a, b] => rfl
  | [a, b, c] => rfl
  | a :: b :: c :: d :: r => rfl
theorem decNs_take (n : Nat) (l : List UInt8) : decNs n (l.take (4 * n)) = decNs n l := by
  induction n generalizing l with
  | zero => rfl
  | succ n ih =>
    simp only [decNs]
    rw [show 4 * (n + 1) = 4 * n + 4 by omega, hd4_take, List.drop_take, show 4 * n + 4 - 4 = 4 * n by omega, ih]
theorem decNs_of (n : Nat) (l : List UInt8) (cur : List Nat) (hl : cur.length = n) (h : ∀ j (hj : j < cur.length), cur[j] = hd4 (l.drop (4 * j))) : cur = decNs n l := by
  apply List.ext_getElem
  · rw [decNs_length, hl]
  · intro j h1 h2
    rw [h j h1, decNs_get]

/-- What a reader's calls answer, and what is left: by the bytes that are left and the error's number. -/
def rNumber (bs : List UInt8) (err : Nat) : Nat × List UInt8 × Nat :=
  if err ≠ 0 then (0, bs, err) else if bs.length < 4 then (0, bs, 2) else (hd4 bs, bs.drop 4, 0)
def rLong (bs : List UInt8) (err : Nat) : Nat × List UInt8 × Nat :=
  if err ≠ 0 then (0, bs, err) else if bs.length < 8 then (0, bs, 2) else (hd4 bs * 4294967296 + hd4 (bs.drop 4), bs.drop 8, 0)
def rFlag (bs : List UInt8) (err : Nat) : Bool × List UInt8 × Nat :=
  if err ≠ 0 then (false, bs, err) else if bs.length < 4 then (false, bs, 2) else if 1 < hd4 bs then (false, bs, 3) else (decide (hd4 bs = 1), bs.drop 4, 0)
def rText (most : Int) (bs : List UInt8) (err : Nat) : List UInt8 × List UInt8 × Nat :=
  if err ≠ 0 then ([], bs, err) else if bs.length < 4 then ([], bs, 2) else if most < (hd4 bs : Int) then ([], bs, 4)
  else if bs.length < 4 + hd4 bs + padN (hd4 bs) then ([], bs, 2) else if ((bs.drop (4 + hd4 bs)).take (padN (hd4 bs))).any (· != 0) then ([], bs, 3)
  else ((bs.drop 4).take (hd4 bs), bs.drop (4 + hd4 bs + padN (hd4 bs)), 0)
def rList (most : Int) (bs : List UInt8) (err : Nat) : List Nat × List UInt8 × Nat :=
  if err ≠ 0 then ([], bs, err) else if bs.length < 4 then ([], bs, 2) else if most < (hd4 bs : Int) then ([], bs, 4)
  else if bs.length < 4 + 4 * hd4 bs then ([], bs, 2) else (decNs (hd4 bs) (bs.drop 4), bs.drop (4 + 4 * hd4 bs), 0)
def rEnd (bs : List UInt8) (err : Nat) : Nat := if err ≠ 0 then err else if bs.length = 0 then 0 else 4

end Go.Proofs.YtalkhhjfplahkaaGreat
namespace Go.Proofs.YtalkhhjfplahkaaGreat

theorem hd4_be4 (n : Nat) (r : List UInt8) (h : n < 4294967296) : hd4 (be4 n ++ r) = n := by
  show decB (UInt8.ofNat (n / 16777216)) (UInt8.ofNat (n / 65536)) (UInt8.ofNat (n / 256)) (UInt8.ofNat n) = n
  unfold decB
  simp
  omega

theorem be4_hd4 (bs : List UInt8) (h : 4 ≤ bs.length) : be4 (hd4 bs) ++ bs.drop 4 = bs := by
  obtain ⟨a, b, c, d, r, rfl⟩ := four bs h
  have h0 := a.toNat_lt; have h1 := b.toNat_lt; have h2 := c.toNat_lt; have h3 := d.toNat_lt
  have e : ∀ (x : UInt8) (n : Nat), n % 256 = x.toNat → UInt8.ofNat n = x := fun x n hn => by
    apply UInt8.toNat_inj.1
    simpa using hn
  show UInt8.ofNat (decB a b c d / 16777216) :: UInt8.ofNat (decB a b c d / 65536) :: UInt8.ofNat (decB a b c d / 256) :: UInt8.ofNat (decB a b c d) :: r = _
  unfold decB
  rw [e a _ (by omega), e b _ (by omega), e c _ (by omega), e d _ (by omega)]

theorem rNumber_be4 (n : Nat) (r : List UInt8) (h : n < 4294967296) : rNumber (be4 n ++ r) 0 = (n, r, 0) := by
  unfold rNumber
  rw [if_neg (by simp), if_neg (by simp [be4_length]), hd4_be4 n r h]
  rfl
theorem rLong_be8 (n : Nat) (r : List UInt8) (h : n < 18446744073709551616) : rLong (be8 n ++ r) 0 = (n, r, 0) := by
  unfold rLong be8
  rw [if_neg (by simp), if_neg (by simp [be4_length]; omega), List.append_assoc, hd4_be4 _ _ (by omega)]
  have : (be4 (n / 4294967296) ++ (be4 (n % 4294967296) ++ r)).drop 4 = be4 (n % 4294967296) ++ r := rfl
  rw [this, hd4_be4 _ _ (by omega)]
  refine Prod.ext ?_ rfl
  simp only
  omega
theorem rFlag_be4 (b : Bool) (r : List UInt8) : rFlag (be4 b.toNat ++ r) 0 = (b, r, 0) := by
  unfold rFlag
  rw [if_neg (by simp), if_neg (by simp [be4_length]), hd4_be4 _ r (by cases b <;> decide)]
  cases b <;> rfl

theorem take_append_len {l r : List UInt8} {n : Nat} (h : l.length = n) : (l ++ r).take n = l := by rw [← h]; exact List.take_left
theorem drop_append_len {l r : List UInt8} {n : Nat} (h : l.length = n) : (l ++ r).drop n = r := by rw [← h]; exact List.drop_left

theorem zeros_any (n : Nat) : (zeros n).any (· != 0) = false := by
  unfold zeros
  simp

theorem rText_encT (most : Int) (s r : List UInt8) (hm : (s.length : Int) ≤ most) (h : s.length < 4294967296) : rText most (encT s ++ r) 0 = (s, r, 0) := by
  have hd : hd4 (encT s ++ r) = s.length := by unfold encT; rw [List.append_assoc]; exact hd4_be4 _ _ h
  have hl := encT_length s
  have e1 : (encT s ++ r).drop 4 = (s ++ zeros (padN s.length)) ++ r := by unfold encT; rw [List.append_assoc]; exact drop_append_len (be4_length _)
  have e2 : (encT s ++ r).drop (4 + s.length) = zeros (padN s.length) ++ r := by rw [← List.drop_drop, e1, List.append_assoc]; exact drop_append_len rfl
  unfold rText
  rw [if_neg (by simp), if_neg (by rw [List.length_append]; omega), hd, if_neg (by omega), if_neg (by rw [List.length_append]; omega), e2, take_append_len (by simp [zeros]), zeros_any, if_neg (by simp), e1, List.append_assoc, take_append_len rfl]
  rw [show (encT s ++ r).drop (4 + s.length + padN s.length) = r from drop_append_len (by omega)]

theorem decNs_encNs (l : List Nat) (r : List UInt8) (h : ∀ n ∈ l, n < 4294967296) : decNs l.length (encNs l ++ r) = l := by
  induction l with
  | nil => rfl
  | cons a l ih =>
    simp only [encNs, List.length_cons, decNs, List.append_assoc]
    rw [hd4_be4 _ _ (h a (by simp)), show (be4 a ++ (encNs l ++ r)).drop 4 = encNs l ++ r from rfl, ih (fun n hn => h n (by simp [hn]))]

theorem rList_encL (most : Int) (l : List Nat) (r : List UInt8) (hm : (l.length : Int) ≤ most) (h : l.length < 4294967296) (hu : ∀ n ∈ l, n < 4294967296) : rList most (encL l ++ r) 0 = (l, r, 0) := by
  have hd : hd4 (encL l ++ r) = l.length := by unfold encL; rw [List.append_assoc]; exact hd4_be4 _ _ h
  have hl := encL_length l
  have e1 : (encL l ++ r).drop 4 = encNs l ++ r := by unfold encL; rw [List.append_assoc]; exact drop_append_len (be4_length _)
  unfold rList
  rw [if_neg (by simp), if_neg (by rw [List.length_append]; omega), hd, if_neg (by omega), if_neg (by rw [List.length_append]; omega), e1, decNs_encNs l r hu]
  rw [show (encL l ++ r).drop (4 + 4 * l.length) = r from drop_append_len (by omega)]

/-! ### What is cut off. -/
theorem hd4_prefix (b t : List UInt8) (h : 4 ≤ b.length) : hd4 (b ++ t) = hd4 b := by
  obtain ⟨a0, a1, a2, a3, r, rfl⟩ := four b h
  rfl

theorem rNumber_cut (b : List UInt8) (h : b.length < 4) : (rNumber b 0).2 = (b, 2) := by
  unfold rNumber
  rw [if_neg (by simp), if_pos h]
theorem rLong_cut (b : List UInt8) (h : b.length < 8) : (rLong b 0).2 = (b, 2) := by
  unfold rLong
  rw [if_neg (by simp), if_pos h]
theorem rFlag_cut (b : List UInt8) (h : b.length < 4) : (rFlag b 0).2 = (b, 2) := by
  unfold rFlag
  rw [if_neg (by simp), if_pos h]
theorem rText_cut (most : Int) (s b t : List UInt8) (he : b ++ t = encT s) (ht : t ≠ []) (hm : (s.length : Int) ≤ most) (h : s.length < 4294967296) : (rText most b 0).2 = (b, 2) := by
  have hl := encT_length s
  have htl : 0 < t.length := List.length_pos_iff.2 ht
  have hbl : b.length + t.length = 4 + s.length + padN s.length := by rw [← hl, ← he, List.length_append]
  unfold rText
  rw [if_neg (by simp)]
  by_cases h4 : b.length < 4
  · rw [if_pos h4]
  · have hd : hd4 b = s.length := by
      rw [← hd4_prefix b t (by omega), he]
      have := hd4_be4 s.length (s ++ zeros (padN s.length)) h
      exact this
    rw [if_neg h4, hd, if_neg (by omega), if_pos (by omega)]
theorem rList_cut (most : Int) (l : List Nat) (b t : List UInt8) (he : b ++ t = encL l) (ht : t ≠ []) (hm : (l.length : Int) ≤ most) (h : l.length < 4294967296) : (rList most b 0).2 = (b, 2) := by
  have hl := encL_length l
  have htl : 0 < t.length := List.length_pos_iff.2 ht
  have hbl : b.length + t.length = 4 + 4 * l.length := by rw [← hl, ← he, List.length_append]
  unfold rList
  rw [if_neg (by simp)]
  by_cases h4 : b.length < 4
  · rw [if_pos h4]
  · have hd : hd4 b = l.length := by
      rw [← hd4_prefix b t (by omega), he]
      exact hd4_be4 l.length (encNs l) h
    rw [if_neg h4, hd, if_neg (by omega), if_pos (by omega)]

/-! ### An error stays. -/
theorem rNumber_err (b : List UInt8) (e : Nat) (h : e ≠ 0) : rNumber b e = (0, b, e) := by unfold rNumber; rw [if_pos h]
theorem rLong_err (b : List UInt8) (e : Nat) (h : e ≠ 0) : rLong b e = (0, b, e) := by unfold rLong; rw [if_pos h]
theorem rFlag_err (b : List UInt8) (e : Nat) (h : e ≠ 0) : rFlag b e = (false, b, e) := by unfold rFlag; rw [if_pos h]
theorem rText_err (m : Int) (b : List UInt8) (e : Nat) (h : e ≠ 0) : rText m b e = ([], b, e) := by unfold rText; rw [if_pos h]
theorem rList_err (m : Int) (b : List UInt8) (e : Nat) (h : e ≠ 0) : rList m b e = ([], b, e) := by unfold rList; rw [if_pos h]

/-! ### What was read, written anew. -/
theorem rNumber_one (bs : List UInt8) (h : (rNumber bs 0).2.2 = 0) : be4 (rNumber bs 0).1 ++ (rNumber bs 0).2.1 = bs := by
  unfold rNumber at *
  rw [if_neg (by simp)] at *
  by_cases h4 : bs.length < 4
  · rw [if_pos h4] at h; simp at h
  · rw [if_neg h4]
    exact be4_hd4 bs (by omega)
theorem rLong_one (bs : List UInt8) (h : (rLong bs 0).2.2 = 0) : be8 (rLong bs 0).1 ++ (rLong bs 0).2.1 = bs := by
  unfold rLong at *
  rw [if_neg (by simp)] at *
  by_cases h8 : bs.length < 8
  · rw [if_pos h8] at h; simp at h
  · rw [if_neg h8]
    have h1 := hd4_lt bs
    have h2 := hd4_lt (bs.drop 4)
    simp only
    unfold be8
    rw [show (hd4 bs * 4294967296 + hd4 (bs.drop 4)) / 4294967296 = hd4 bs by omega, show (hd4 bs * 4294967296 + hd4 (bs.drop 4)) % 4294967296 = hd4 (bs.drop 4) by omega]
    rw [List.append_assoc, show bs.drop 8 = (bs.drop 4).drop 4 by rw [List.drop_drop], be4_hd4 (bs.drop 4) (by simp; omega), be4_hd4 bs (by omega)]
theorem rFlag_one (bs : List UInt8) (h : (rFlag bs 0).2.2 = 0) : be4 (rFlag bs 0).1.toNat ++ (rFlag bs 0).2.1 = bs := by
  unfold rFlag at *
  rw [if_neg (by simp)] at *
  by_cases h4 : bs.length < 4
  · rw [if_pos h4] at h; simp at h
  · rw [if_neg h4] at *
    by_cases h1 : 1 < hd4 bs
    · rw [if_pos h1] at h; simp at h
    · rw [if_neg h1]
      have e : (decide (hd4 bs = 1)).toNat = hd4 bs := by
        by_cases h2 : hd4 bs = 1
        · simp [h2]
        · have : hd4 bs = 0 := by omega
          simp [this]
      simp only [e]
      exact be4_hd4 bs (by omega)

theorem all_zero (l : List UInt8) (h : l.any (· != 0) = false) : l = zeros l.length := by
  apply List.ext_getElem
  · simp [zeros]
  · intro j h1 h2
    have := List.any_eq_false.1 h l[j] (List.getElem_mem h1)
    simp [zeros] at this ⊢
    exact this

theorem rText_one (most : Int) (bs : List UInt8) (h : (rText most bs 0).2.2 = 0) : encT (rText most bs 0).1 ++ (rText most bs 0).2.1 = bs ∧ ((rText most bs 0).1.length : Int) ≤ most := by
  unfold rText at *
  rw [if_neg (by simp)] at *
  by_cases h4 : bs.length < 4
  · rw [if_pos h4] at h; simp at h
  rw [if_neg h4] at *
  by_cases h1 : most < (hd4 bs : Int)
  · rw [if_pos h1] at h; simp at h
  rw [if_neg h1] at *
  by_cases h2 : bs.length < 4 + hd4 bs + padN (hd4 bs)
  · rw [if_pos h2] at h; simp at h
  rw [if_neg h2] at *
  by_cases h3 : ((bs.drop (4 + hd4 bs)).take (padN (hd4 bs))).any (· != 0) = true
  · rw [if_pos h3] at h; simp at h
  rw [if_neg h3]
  simp only
  have hz := all_zero _ (by simpa using h3)
  have hzl : ((bs.drop (4 + hd4 bs)).take (padN (hd4 bs))).length = padN (hd4 bs) := by simp; omega
  rw [hzl] at hz
  have hl : ((bs.drop 4).take (hd4 bs)).length = hd4 bs := by simp; omega
  refine ⟨?_, by rw [hl]; omega⟩
  unfold encT
  rw [hl, ← hz, List.append_assoc, List.append_assoc]
  have e1 : (bs.drop (4 + hd4 bs)).take (padN (hd4 bs)) ++ bs.drop (4 + hd4 bs + padN (hd4 bs)) = bs.drop (4 + hd4 bs) := by
    rw [show bs.drop (4 + hd4 bs + padN (hd4 bs)) = (bs.drop (4 + hd4 bs)).drop (padN (hd4 bs)) by rw [List.drop_drop], List.take_append_drop]
  rw [e1]
  have e2 : (bs.drop 4).take (hd4 bs) ++ bs.drop (4 + hd4 bs) = bs.drop 4 := by
    rw [show bs.drop (4 + hd4 bs) = (bs.drop 4).drop (hd4 bs) by rw [List.drop_drop], List.take_append_drop]
  rw [e2]
  exact be4_hd4 bs (by omega)

theorem encNs_decNs (n : Nat) (l : List UInt8) (h : 4 * n ≤ l.length) : encNs (decNs n l) ++ l.drop (4 * n) = l := by
  induction n generalizing l with
  | zero => simp [decNs, encNs]
  | succ n ih =>
    simp only [decNs, encNs]
    have := ih (l.drop 4) (by simp; omega)
    rw [List.drop_drop, show 4 + 4 * n = 4 * (n + 1) by omega] at this
    rw [List.append_assoc, this]
    exact be4_hd4 l (by omega)

theorem decNs_lt (n : Nat) (l : List UInt8) : ∀ x ∈ decNs n l, x < 4294967296 := by
  induction n generalizing l with
  | zero => simp [decNs]
  | succ n ih =>
    intro x hx
    simp only [decNs, List.mem_cons] at hx
    rcases hx with rfl | hx
    · exact hd4_lt l
    · exact ih _ x hx

theorem rList_one (most : Int) (bs : List UInt8) (h : (rList most bs 0).2.2 = 0) : encL (rList most bs 0).1 ++ (rList most bs 0).2.1 = bs ∧ ((rList most bs 0).1.length : Int) ≤ most ∧ ∀ x ∈ (rList most bs 0).1, x < 4294967296 := by
  unfold rList at *
  rw [if_neg (by simp)] at *
  by_cases h4 : bs.length < 4
  · rw [if_pos h4] at h; simp at h
  rw [if_neg h4] at *
  by_cases h1 : most < (hd4 bs : Int)
  · rw [if_pos h1] at h; simp at h
  rw [if_neg h1] at *
  by_cases h2 : bs.length < 4 + 4 * hd4 bs
  · rw [if_pos h2] at h; simp at h
  rw [if_neg h2]
  simp only
  refine ⟨?_, by rw [decNs_length]; omega, decNs_lt _ _⟩
  unfold encL
  rw [decNs_length, List.append_assoc]
  have := encNs_decNs (hd4 bs) (bs.drop 4) (by simp; omega)
  rw [List.drop_drop] at this
  rw [this]
  exact be4_hd4 bs (by omega)

theorem rLong_lt (bs : List UInt8) (e : Nat) : (rLong bs e).1 < 18446744073709551616 := by
  unfold rLong
  have h1 := hd4_lt bs
  have h2 := hd4_lt (bs.drop 4)
  split
  · simp
  · split
    · simp
    · simp only; omega
theorem rNumber_lt (bs : List UInt8) (e : Nat) : (rNumber bs e).1 < 4294967296 := by
  unfold rNumber
  have h1 := hd4_lt bs
  split
  · simp
  · split
    · simp
    · simp only; omega

theorem rNumber_len (bs : List UInt8) (e : Nat) : (rNumber bs e).2.1.length ≤ bs.length := by
  unfold rNumber
  repeat' split
  all_goals simp
theorem rLong_len (bs : List UInt8) (e : Nat) : (rLong bs e).2.1.length ≤ bs.length := by
  unfold rLong
  repeat' split
  all_goals simp
theorem rFlag_len (bs : List UInt8) (e : Nat) : (rFlag bs e).2.1.length ≤ bs.length := by
  unfold rFlag
  repeat' split
  all_goals simp
theorem rText_len (m : Int) (bs : List UInt8) (e : Nat) : (rText m bs e).2.1.length ≤ bs.length := by
  unfold rText
  repeat' split
  all_goals simp
theorem rList_len (m : Int) (bs : List UInt8) (e : Nat) : (rList m bs e).2.1.length ≤ bs.length := by
  unfold rList
  repeat' split
  all_goals simp

end Go.Proofs.YtalkhhjfplahkaaGreat
