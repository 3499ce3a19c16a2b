/- append onto a row of the call's own, the source nil, empty or not: of no program. -/
import Derived.Test.YtnmmdnecojgccaaMem
import Derived.RegionTactic
import Derived.WalkKit
import Derived.OwnWalk
namespace Go.Proofs.Ytnmmdnecojgccaa
open Go.RowKit

/-- The slice v reads as the m one-cell values news. -/
def SrcV (w : World) (v : Value) (m : Nat) (news : List Value) : Prop :=
  ∃ A c, v = .slice A m c ∧ news.length = m ∧ (m = 0 ∨ ∃ ad, A = some ad ∧ ∀ j u, news[j]? = some u → w.cell? (ad.add j) = some u)

theorem SrcV.kept {S : List Nat} {w w' : World} {A : Option Addr} {m c : Nat} {news : List Value} (h : SrcV w (.slice A m c) m news) (k : Only S w w') (hg : ∀ a, A = some a → a.block ∉ S) : SrcV w' (.slice A m c) m news := by
  obtain ⟨A', c', he, hl, hs⟩ := h
  injection he with h1 h2 h3
  subst h1; subst h3
  refine ⟨A, c, rfl, hl, hs.imp id ?_⟩
  rintro ⟨ad, rfl, hc⟩
  refine ⟨ad, rfl, fun j u hu => k.cell (hc j u hu) ?_⟩
  have : (ad.add j).block = ad.block := by unfold Addr.add; split <;> rfl
  rw [this]
  exact hg ad rfl

theorem addr_add (g o j : Nat) : (⟨g, o, none⟩ : Addr).add j = ⟨g, o + j, none⟩ := by unfold Addr.add; split <;> simp_all

theorem SrcV.of_bytes {w : World} {g o : Nat} {l : List UInt8} (c : Nat) (h : BytesAt w g o l) : SrcV w (.slice (some ⟨g, o, none⟩) l.length c) l.length (byteVs l) := by
  refine ⟨_, _, rfl, byteVs_length l, .inr ⟨_, rfl, fun j u hu => ?_⟩⟩
  rw [addr_add]
  have hj : j < l.length := by have := (List.getElem?_eq_some_iff.1 hu).1; simpa [byteVs] using this
  rw [h j hj]
  simp [byteVs, List.getElem?_eq_getElem hj] at hu
  rw [← hu]

section
variable {P : Program} (w : World)

theorem run_append_src (t ty e : TypeId) (i : TypeInfo) (z : Value) (bytes : Nat) (ht : P.underlying t = some (.slice e)) (hi : P.info? e = some i) (hz : i.zero = some z)
    (hsize : i.size = 1) (hby : i.bytes = bytes) (hzs : z.cells.size = 1) (v : Value) (n : Nat) (xs : List Value) (hown : w.ownsRow 0 e 1 v n xs)
    (x : Value) (m : Nat) (news : List Value) (hsrc : SrcV w x m news) (h1 : ∀ u ∈ news, u.oneCell' = true) (h63 : n + m ≤ maxLen) (hbytes : (n + m) * bytes ≤ 140737488355328) :
    ∃ v' w', (Builtin.append_ #[t, t] ty #[v, x]).run P w = .ok v' w' ∧ w'.ownsRow 0 e 1 v' (n + m) (xs ++ news) ∧ w.grownBy w' v.ownBlock ∧
      (v'.ownBlock = v.ownBlock ∨ v'.ownBlock = some w.heap.size) := by
  obtain ⟨A, c, rfl, hl, hs⟩ := hsrc
  have go : ∀ ad : Addr, A = some ad → (∀ j u, news[j]? = some u → w.cell? (ad.add j) = some u) → ∃ v' w', (Builtin.append_ #[t, t] ty #[v, .slice A m c]).run P w = .ok v' w' ∧ w'.ownsRow 0 e 1 v' (n + m) (xs ++ news) ∧ w.grownBy w' v.ownBlock ∧
      (v'.ownBlock = v.ownBlock ∨ v'.ownBlock = some w.heap.size) := by
    intro ad hA hc
    obtain ⟨v', w', hr, h2, h3, _, h5⟩ := run_append_own_at (P := P) w 0 t ty e i z 1 bytes ht hi hz hsize hby hzs Nat.one_pos v n xs hown ad m c news (by simpa using hl) hc h1 h63 hbytes (Nat.zero_le _)
    subst hA
    exact ⟨v', w', hr, h2, h3, h5⟩
  rcases hs with rfl | ⟨ad, hA, hc⟩
  · obtain rfl : news = [] := List.eq_nil_of_length_eq_zero hl
    cases hA : A with
    | some ad => rw [← hA]; exact go ad hA (by intro j u hu; simp at hu)
    | none =>
      refine ⟨v, w, ?_, by simpa using hown, World.grownBy.refl w _, .inl rfl⟩
      rcases hown.2 with ⟨rfl, rfl⟩ | ⟨g, cap, cur, rfl, _, _, hnc, _⟩
      · simp [Builtin.append_, run_underlying ht, sizeOf, typeInfo, hi, Builtin.lenOf, Builtin.firstCells]
      · simp [Builtin.append_, run_underlying ht, sizeOf, typeInfo, hi, Builtin.lenOf, Builtin.firstCells, hnc, storeCells]
  · exact go ad hA hc

theorem wpList_append_src {ops : Array Oper} {rest : List Oper} {o : Oper} {a : Act} {Q : Exit → Act → World → Prop} (hgd : o.guard = none) (s y : Operand) (t : TypeId)
    (ho : o.op = .call { callee := .builtin .append, args := #[s, y], argTypes := #[t, t] })
    (e : TypeId) (z : Value) (bytes : Nat) (ht : P.underlying t = some (.slice e)) (hinfo : (P.info? e).map (fun i => (i.zero, i.size, i.bytes)) = some (some z, 1, bytes)) (hzs : z.cells.size = 1)
    (v : Value) (n : Nat) (xs : List Value) (hs : a.eval s = v) (hown : w.ownsRow 0 e 1 v n xs)
    (x : Value) (m : Nat) (news : List Value) (hx : a.eval y = x) (hsrc : SrcV w x m news) (h1 : ∀ u ∈ news, u.oneCell' = true)
    (h63 : n + m ≤ maxLen) (hbytes : (n + m) * bytes ≤ 140737488355328)
    (h : ∀ v' w', w'.ownsRow 0 e 1 v' (n + m) (xs ++ news) → w.grownBy w' v.ownBlock → (v'.ownBlock = v.ownBlock ∨ v'.ownBlock = some w.heap.size) → wpList P ops Q rest (a.put o.dst v') w') : wpList P ops Q (o :: rest) a w := by
  refine wpList_plain hgd fun K hK => ?_
  obtain ⟨i, hi, hz0, hz1, hz2⟩ := info_parts hinfo
  obtain ⟨v', w', hrun, h2, h3, h4⟩ := run_append_src (P := P) w t o.type e i z bytes ht hi hz0 hz1 hz2 hzs v n xs hown x m news hsrc h1 h63 hbytes
  unfold Oper.wp execOp
  simp only [ho, resolve, invoke, builtin, Sem.run_bind, Sem.run_pure, Result.andThen_ok, List.map_toArray, List.map_cons, List.map_nil, hs, hx, hrun]
  exact hK _ _ (h v' w' h2 h3 h4)
end

theorem ownsRow_far {w : World} {e : TypeId} {v : Value} {n : Nat} {xs : List Value} (h : w.ownsRow 0 e 1 v n xs) {a : Addr} (ha : v.ownBlock ≠ some a.block) (u : Value) : (w.setCell a u).ownsRow 0 e 1 v n xs := by
  refine h.kept (row := some a.block) ⟨rfl, rfl, rfl, by simp [World.setCell], fun k _ hk => Below.heap_setCell _ _ _ _ (fun e => hk (by rw [e]))⟩ (.inr ha)

theorem ownsRow_kept {S : List Nat} {w w' : World} {e : TypeId} {v : Value} {n : Nat} {xs : List Value} (h : w.ownsRow 0 e 1 v n xs) (k : Only S w w') (hv : ∀ g, v.ownBlock = some g → g ∉ S) : w'.ownsRow 0 e 1 v n xs := by
  refine ⟨h.1, ?_⟩
  rcases h.2 with h0 | ⟨g, cap, cur, rfl, hb, hg, r⟩
  · exact .inl h0
  · exact .inr ⟨g, cap, cur, rfl, hb, by rw [k.block g (Array.getElem?_eq_some_iff.1 hg).1 (hv g rfl)]; exact hg, r⟩

theorem ownsRow_slice {w : World} {e : TypeId} {v : Value} {n : Nat} {xs : List Value} (h : w.ownsRow 0 e 1 v n xs) : ∃ A c, v = .slice A n c := by
  rcases h.2 with ⟨rfl, rfl⟩ | ⟨g, cap, cur, rfl, _⟩
  · exact ⟨_, _, rfl⟩
  · exact ⟨_, _, rfl⟩

theorem ownsRow_src {w : World} {e : TypeId} {v : Value} {n : Nat} {xs : List Value} (h : w.ownsRow 0 e 1 v n xs) : SrcV w v n xs := by
  rcases id h.2 with ⟨rfl, rfl⟩ | ⟨g, cap, cur, rfl, _, _, _⟩
  · exact ⟨none, 0, rfl, by simpa using h.1, .inl rfl⟩
  · exact ⟨_, _, rfl, by simpa using h.1, .inr ⟨_, rfl, h.cells rfl⟩⟩

/-- A string's bytes. -/
def strOf (l : List UInt8) : ByteArray := ⟨l.toArray⟩
theorem strOf_toList (s : ByteArray) : strOf s.data.toList = s := by cases s; simp [strOf]
theorem strOf_list (l : List UInt8) : (strOf l).data.toList = l := by simp [strOf]
theorem strOf_size (l : List UInt8) : (strOf l).size = l.length := by simp [strOf, ByteArray.size]

theorem SrcV.bytes {w : World} {A : Option Addr} {m c : Nat} {l : List UInt8} (h : SrcV w (.slice A m c) m (byteVs l)) : l.length = m ∧ (m = 0 ∨ ∃ ad, A = some ad ∧ ∀ j (hj : j < l.length), w.cell? (ad.add j) = some (.int .u8 (l[j].toNat : Int))) := by
  obtain ⟨A', c', he, hl, hs⟩ := h
  injection he with h1 _ _
  subst h1
  refine ⟨by simpa [byteVs] using hl, hs.imp id ?_⟩
  rintro ⟨ad, rfl, hc⟩
  exact ⟨ad, rfl, fun j hj => hc j _ (by simp only [byteVs, List.getElem?_map, List.getElem?_eq_getElem hj]; rfl)⟩

section
variable {P : Program} (w : World) {ops : Array Oper} {rest : List Oper} {o : Oper} {a : Act} {Q : Exit → Act → World → Prop}

/-- '[]byte(s)'. -/
theorem wpList_to_bytes (hgd : o.guard = none) (src dst e : TypeId) (x : Operand) (ho : o.op = .convert src dst x)
    (hs : P.underlying src = some .string) (hd : P.underlying dst = some (.slice e)) (he : P.underlying e = some (.int .u8)) (s : ByteArray) (hx : a.eval x = .string s) (hlen : s.size ≤ maxLen)
    (h : ∀ w' c, Only [] w w' → s.size ≤ c → c ≤ maxLen → BytesAt w' w.heap.size 0 s.data.toList → w.heap.size < w'.heap.size → wpList P ops Q rest (a.put o.dst (.slice (some ⟨w.heap.size, 0, none⟩) s.size c)) w') :
    wpList P ops Q (o :: rest) a w := by
  refine wpList_plain hgd fun K hK => ?_
  have hr := run_bytes_of_string (P := P) w src dst e s hs hd he
  unfold Oper.wp
  simp [execOp, ho, hx, hr, Result.andThen]
  refine hK _ _ (h _ _ ((Only.refl [] w).drew.alloc _) (grownCap_ge w s.size 0 e) (grownCap_le_maxLen w s.size 0 e hlen) (fun j hj => ?_) (by simp))
  have hj' : j < s.data.size := by simpa using hj
  rw [Nat.zero_add]
  have := World.cell?_alloc_mark w.drew (bytesRow s (grownCap w s.size 0 e)) e ((bytesRow s (grownCap w s.size 0 e)).size, (bytesRow s (grownCap w s.size 0 e)).size + 1) j
  rw [bytesRow_at s _ j hj'] at this
  simpa [byteV] using this

/-- 'string(b)'. -/
theorem wpList_to_string (hgd : o.guard = none) (src dst e : TypeId) (x : Operand) (ho : o.op = .convert src dst x)
    (hs : P.underlying src = some (.slice e)) (he : P.underlying e = some (.int .u8)) (hd : P.underlying dst = some .string) (A : Option Addr) (m c : Nat) (l : List UInt8) (hx : a.eval x = .slice A m c)
    (hsrc : SrcV w (.slice A m c) m (byteVs l)) (h : wpList P ops Q rest (a.put o.dst (.string (strOf l))) w) : wpList P ops Q (o :: rest) a w := by
  refine wpList_plain hgd fun K hK => ?_
  obtain ⟨hl, hc⟩ := hsrc.bytes
  have hr : (convert src dst (.slice A m c)).run P w = .ok (.string (strOf l)) w := by
    cases hA : A with
    | some ad =>
      subst hA
      have hc' : ∀ j (hj : j < l.length), w.cell? (ad.add j) = some (.int .u8 (l[j].toNat : Int)) := by
        rcases hc with h0 | ⟨ad', he', hc⟩
        · intro j hj; omega
        · injection he' with he'; subst he'; exact hc
      have := run_convert_bytes_back (P := P) w src dst e ad c l hs he hd hc'
      rw [hl] at this
      exact this
    | none =>
      have h0 : m = 0 := by rcases hc with h0 | ⟨ad, he', _⟩; exact h0; rw [hA] at he'; cases he'
      obtain rfl : l = [] := List.eq_nil_of_length_eq_zero (by omega)
      rw [run_convert_bytes_string w src dst e none m c hs he hd]
      simp [Conv.bytesToString, strOf]
      rfl
  unfold Oper.wp
  simp [execOp, ho, hx, hr, Result.andThen]
  exact hK _ _ h

theorem madeCells_bytes (n : Nat) : (madeCells #[Value.int .u8 0] n).toList = byteVs (List.replicate n 0) := by
  rw [toList_madeCells_one]
  simp [byteVs, byteV]
end

/-- 's[m:]' of one-cell elements: the value, but for where it begins if nothing is left. -/
theorem slice_tail {P : Program} (t e : TypeId) (ht : P.underlying t = some (.slice e)) (hz : ∀ w, (Go.sizeOf e).run P w = .ok 1 w) (g o n c m : Nat) (k : IntKind) (x : Int) (hx : x = m) (hm : m ≤ n) :
    ∃ o', (m < c → o' = o + m) ∧ ∀ W : World, (Instr.slice t (.slice (some ⟨g, o, none⟩) n c) (some (.int k x)) none none).run P W = .ok (.slice (some ⟨g, o', none⟩) (n - m) (c - m)) W := by
  subst hx
  have ht' : P.underlying t = some (.slice (P.elem t)) := by simp [Program.elem, ht]
  have he : P.elem t = e := by simp [Program.elem, ht]
  refine ⟨if c = m then o else o + m, fun h => by rw [if_neg (by omega)], fun W => ?_⟩
  rw [run_slice_l W t _ _ _ ht' k _ (by omega) (by omega), he, hz]
  by_cases hc : c = m
  · simp [Result.andThen, sliced, hc]
  · simp [Result.andThen, sliced, hc, addr_add]

/-- 's[m:h]' likewise. -/
theorem slice_part {P : Program} (t e : TypeId) (ht : P.underlying t = some (.slice e)) (hz : ∀ w, (Go.sizeOf e).run P w = .ok 1 w) (g o n c m h : Nat) (k k' : IntKind) (x y : Int) (hx : x = m) (hy : y = h) (hm : m ≤ h) (hh : h ≤ c) :
    ∃ o', (m < c → o' = o + m) ∧ ∀ W : World, (Instr.slice t (.slice (some ⟨g, o, none⟩) n c) (some (.int k x)) (some (.int k' y)) none).run P W = .ok (.slice (some ⟨g, o', none⟩) (h - m) (c - m)) W := by
  subst hx
  subst hy
  have ht' : P.underlying t = some (.slice (P.elem t)) := by simp [Program.elem, ht]
  have he : P.elem t = e := by simp [Program.elem, ht]
  refine ⟨if c = m then o else o + m, fun h => by rw [if_neg (by omega)], fun W => ?_⟩
  rw [run_slice_lh W t _ _ _ ht' k k' _ _ (by omega) (by omega) (by omega), he, hz]
  by_cases hc : c = m
  · simp [Result.andThen, sliced, hc]
  · simp [Result.andThen, sliced, hc, addr_add]

/-- 'make([]T, n)' of one-cell elements: the new block, whole. -/
theorem wpList_make_cells {P : Program} (w : World) {ops : Array Oper} {rest : List Oper} {o : Oper} {a : Act} {Q : Exit → Act → World → Prop}
    (hg : o.guard = none) (l c : Operand) (t : TypeId) (hop : o.op = Op.makeSlice t l c) (e : TypeId) (z : Value) (bytes : Nat) (h1 : P.underlying t = some (.slice e))
    (hinfo : (P.info? e).map (fun i => (i.zero, i.size, i.bytes)) = some (some z, 1, bytes)) (hzs : z.cells = #[z])
    (kl kc : IntKind) (L C : Int) (n : Nat) (hl : a.eval l = .int kl L) (hc : a.eval c = .int kc C) (hL : L = (n : Int)) (hC : C = (n : Int)) (b2 : bytes * n ≤ 281474976710656) (b3 : n ≤ 9223372036854775807)
    (hK : wpList P ops Q rest (a.put o.dst (.slice (some ⟨w.heap.size, 0, none⟩) n n)) (w.alloc (.cells (List.replicate n z).toArray e))) :
    wpList P ops Q (o :: rest) a w := by
  refine wpList_plain hg fun K hK' => ?_
  obtain ⟨i, hi, hz0, hz1, hz2⟩ := info_parts hinfo
  subst hL
  subst hC
  have hb' : (i.bytes : Int) * (n : Int) ≤ 281474976710656 := by
    have h : ((i.bytes * n : Nat) : Int) ≤ 281474976710656 := by rw [hz2]; omega
    rwa [Int.natCast_mul] at h
  have hr := run_make (P := P) w t e i z h1 hi hz0 kl kc n n (by omega) (Int.le_refl _) hb' (by omega)
  simp only [Int.toNat_natCast, hz1, Nat.mul_one] at hr
  have hm : madeCells z.cells n = (List.replicate n z).toArray := by
    rw [← toList_madeCells_one, hzs]
  rw [hm] at hr
  unfold Oper.wp
  simp [execOp, hop, hl, hc, hr, Result.andThen]
  exact hK' _ _ (by simpa using hK)

theorem strOf_append (l m : List UInt8) : strOf l ++ strOf m = strOf (l ++ m) := ByteArray.mk_append_mk l m

/-- 's + t'. -/
theorem wpList_concat {P : Program} (w : World) {ops : Array Oper} {rest : List Oper} {o : Oper} {a : Act} {Q : Exit → Act → World → Prop}
    (hg : o.guard = none) (t u : TypeId) (x y : Operand) (hop : o.op = Op.binOp .add t x y u) (l m : List UInt8) (hx : a.eval x = .string (strOf l)) (hy : a.eval y = .string (strOf m)) (hlen : l.length + m.length ≤ 9223372036854775807)
    (hK : wpList P ops Q rest (a.put o.dst (.string (strOf (l ++ m)))) w) : wpList P ops Q (o :: rest) a w := by
  refine wpList_plain hg fun K hK' => ?_
  have hr : (binOp .add t (.string (strOf l)) (.string (strOf m))).run P w = .ok (.string (strOf (l ++ m))) w := by
    rw [binOp_string_add, run_string_add_sum w _ _ (by rw [strOf_size, strOf_size]; exact hlen), strOf_append]
  unfold Oper.wp
  simp only [execOp, hop, hx, hy, eqGuard_add, Sem.run_bind, Sem.run_pure, Result.andThen_ok, hr]
  exact hK' _ _ hK

def strLen : Value → Nat
  | .string s => s.size
  | _ => 0

end Go.Proofs.Ytnmmdnecojgccaa
