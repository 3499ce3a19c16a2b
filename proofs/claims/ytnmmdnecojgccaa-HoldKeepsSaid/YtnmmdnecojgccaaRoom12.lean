/- A room: make with spare cells, copy, what is written over. -/
import Derived.Test.YtnmmdnecojgccaaRow12
import Derived.Laws.MakeOwn
import Derived.Laws.StructEq
import Derived.Deep.AppendSrc
import Derived.Deep.Upon
namespace Go.Proofs.Ytnmmdnecojgccaa
open Go.RowKit
set_option linter.unusedVariables false

theorem Only.setCells {S : List Nat} {a : World} {g : Nat} (hg : g ∈ S ∨ a.heap.size ≤ g) : ∀ (vs : List Value) (o : Nat) (w : World), Only S a w → Only S a (w.setCells g o vs)
  | [], _, _, h => h
  | v :: r, o, _, h => Only.setCells hg r (o + 1) _ (h.setCell hg v)
theorem Blk.setCells {g : Nat} {t : TypeId} : ∀ (vs cs : List Value) (o : Nat) (w : World), Blk w g t cs.toArray → o + vs.length ≤ cs.length → Blk (w.setCells g o vs) g t (cs.take o ++ (vs ++ cs.drop (o + vs.length))).toArray
  | [], cs, o, _, h, _ => by simpa [World.setCells] using h
  | v :: r, cs, o, w, h, hl => by
    rw [World.setCells]
    have h1 := h.set o v
    rw [List.setIfInBounds_toArray] at h1
    have h2 := Blk.setCells r (cs.set o v) (o + 1) _ h1 (by simp at hl ⊢; omega)
    have e : (cs.set o v).take (o + 1) ++ (r ++ (cs.set o v).drop (o + 1 + r.length)) = cs.take o ++ (v :: r ++ cs.drop (o + (v :: r).length)) := by
      simp only [List.length_cons] at hl ⊢
      rw [List.take_add_one, List.take_set_of_le (Nat.le_refl _), List.getElem?_set_self (by omega), List.drop_set_of_lt (by omega)]
      simp [Nat.add_comm, Nat.add_left_comm]
    rw [e] at h2
    exact h2
theorem zero_cells (m : Nat) (z : Value) (hz : z.cells = #[.int .u32 0, .int .u32 0]) : (madeCells z.cells (m * 2)).toList = encs holE (List.replicate m zeroH) := by
  rw [hz]
  apply List.ext_getElem?
  intro j
  by_cases hj : j < m * 2
  · have hd : j / 2 < (List.replicate m zeroH).length := by rw [List.length_replicate]; omega
    have hr : j % 2 < 2 := Nat.mod_lt _ (by decide)
    have hx : (List.replicate m zeroH)[j / 2] = zeroH := List.getElem_replicate _
    have h1 := encs_at (enc := holE) holE_length (List.replicate m zeroH) (j / 2) hd (j % 2)
    rw [hx, show j / 2 * 2 + j % 2 = j by omega] at h1
    have h2 : (madeCells #[Value.int .u32 0, .int .u32 0] (m * 2)).toList[j]? = some (#[Value.int .u32 0, .int .u32 0][j % 2]'(by simpa using hr)) := by
      rw [List.getElem?_eq_getElem (by simp [size_madeCells]; omega)]
      simp [madeCells, hr]
    rw [h2]
    have h01 : j % 2 = 0 ∨ j % 2 = 1 := by omega
    rcases h01 with h | h
    · rw [h1 (.int .u32 0) (by rw [h]; rfl)]
      simp [h]
    · rw [h1 (.int .u32 0) (by rw [h]; rfl)]
      simp [h]
  · rw [List.getElem?_eq_none (by simp [size_madeCells]; omega), List.getElem?_eq_none (by rw [encs_length holE_length, List.length_replicate]; omega)]

/-- 'make([]Inode, n, m)'. -/
theorem wpList_make_room {w : World} {ops : Array Oper} {rest : List Oper} {o : Oper} {a : Act} {Q : Exit → Act → World → Prop}
    (hg : o.guard = none) (l c : Operand) (hop : o.op = Op.makeSlice 23 l c) (L C : Int) (n m : Nat) (hl : a.eval l = .int .i64 L) (hc : a.eval c = .int .i64 C) (hL : L = n) (hC : C = m) (hnm : n ≤ m) (hfew : m ≤ 1000)
    (hK : wpList Try.prog ops Q rest (a.put o.dst (.slice (some ⟨w.heap.size, 0, none⟩) n m)) (w.alloc (.cells (encs holE (List.replicate m zeroH)).toArray 47))) :
    wpList Try.prog ops Q (o :: rest) a w := by
  refine wpList_plain hg fun K hK' => ?_
  obtain ⟨i, hi, hz0, hz1, hz2⟩ := info_parts info_hol
  subst hL
  subst hC
  have hr := run_make (P := Try.prog) w 23 47 i _ Try.underlying23 hi hz0 .i64 .i64 n m (by omega) (by omega) (by rw [hz2]; omega) (by omega)
  simp only [Int.toNat_natCast, hz1] at hr
  have hm := zero_cells m (.agg #[.int .u32 0, .int .u32 0]) rfl
  have hm' : madeCells (Value.agg #[.int .u32 0, .int .u32 0]).cells (m * 2) = (encs holE (List.replicate m zeroH)).toArray := by rw [← hm]
  rw [hm'] at hr
  unfold Oper.wp
  simp only [execOp, hop, hl, hc, Sem.run_bind, hr, Result.andThen_ok, Sem.run_pure]
  exact hK' _ _ hK

/-- 'copy(room, l)' of structs: as many as both have. -/
theorem wpList_copy_els {P : Program} {α : Type} {enc : α → List Value} {k : Nat} {w : World} {ops : Array Oper} {rest : List Oper} {o : Oper} {a : Act} {Q : Exit → Act → World → Prop} (hk : ∀ x, (enc x).length = k) (h1 : ∀ x, ∀ v ∈ enc x, v.oneCell' = true)
    (hgd : o.guard = none) (d s : Operand) (dT sT : TypeId) (ho : o.op = .call { callee := .builtin .copy, args := #[d, s], argTypes := #[dT, sT] }) (elem : TypeId) (hu : P.underlying dT = some (.slice elem)) (hsz : (P.info? elem).map (·.size) = some k)
    (q n dCap sCap : Nat) (A : Option Addr) (l : List α) (hn : n = l.length) (hd : a.eval d = .slice (some ⟨q, 0, none⟩) n dCap) (hs : a.eval s = .slice A n sCap) (hA : Els enc k w A l) (hk0 : 0 < k)
    (cur : List Value) (t : TypeId) (hq : Blk w q t cur.toArray) (hfit : n * k ≤ cur.length)
    (h : ∀ w', Blk w' q t (encs enc l ++ cur.drop (n * k)).toArray → Only [q] w w' → wpList P ops Q rest (a.put o.dst (goInt n)) w') : wpList P ops Q (o :: rest) a w := by
  have hlen : (encs enc l).length = n * k := by rw [encs_length hk, hn]
  have hst := run_storeCells_cells (P := P) q 0 (encs enc l) 0 w (fun j hj => by
    rw [hq.cell]
    simp only [List.getElem?_toArray, Nat.zero_add]
    rw [List.getElem?_eq_getElem (by omega)]
    rfl) (fun j _ => hq.free _) (encs_one h1 l)
  simp only [Nat.add_zero] at hst
  have hb := Blk.setCells (encs enc l) cur 0 w hq (by omega)
  simp only [List.take_zero, List.nil_append, Nat.zero_add, hlen] at hb
  have hrun : (Builtin.copy_ #[dT, sT] o.type #[.slice (some ⟨q, 0, none⟩) n dCap, .slice A n sCap]).run P w = .ok (goInt n) (w.setCells q 0 (encs enc l)) := by
    cases hqi : P.info? elem with
    | none => simp [hqi] at hsz
    | some i =>
      have hi : i.size = k := by simpa [hqi] using hsz
      rcases hA with h0 | ⟨g, off, rfl, _, hat⟩
      · subst h0
        have hn0 : n = 0 := by simpa using hn
        subst hn0
        have hl : ∀ (x : Addr), (loadCells x 0).run P w = .ok #[] w := fun x => by simpa using run_loadCells_list (P := P) w x [] (by simp)
        cases A <;> simp [Builtin.copy_, run_underlying hu, Builtin.lenOf, Builtin.firstCells, sizeOf, typeInfo, hqi, storeCells, hl, encs, World.setCells]
      · have hl := run_loadCells_list (P := P) w ⟨g, off, none⟩ (encs enc l) (els_news hk hk0 hat)
        rw [hlen] at hl
        simp [Builtin.copy_, run_underlying hu, Builtin.lenOf, Builtin.firstCells, sizeOf, typeInfo, hqi, hi, hl, hst]
  refine wpList_plain hgd fun K hK => ?_
  unfold Oper.wp execOp
  simp only [ho, resolve, invoke, builtin, Sem.run_bind, Sem.run_pure, Result.andThen_ok, List.map_toArray, List.map_cons, List.map_nil, hd, hs, hrun]
  exact hK _ _ (h _ hb (Only.setCells (.inl (by simp)) _ _ _ (Only.refl [q] w)))

/-- A room holds the opens L. -/
def RoomB (w : World) (q : Nat) (L : List Hol) : Prop := Blk w q 47 (encs holE L).toArray
theorem RoomB.kept {S : List Nat} {w w' : World} {q : Nat} {L : List Hol} (h : RoomB w q L) (k : Only S w w') (hq : q ∉ S) : RoomB w' q L := Blk.kept h k hq
theorem RoomB.els {w : World} {q : Nat} {l m : List Hol} (h : RoomB w q (l ++ m)) : Els holE 2 w (some ⟨q, 0, none⟩) l := by
  refine .inr ⟨q, 0, rfl, Blk.lt h, fun i hi j v hv => ?_⟩
  have hi' : i < (l ++ m).length := by rw [List.length_append]; omega
  have e : (l ++ m)[i] = l[i] := List.getElem_append_left hi
  have h0 := encs_at (enc := holE) holE_length (l ++ m) i hi' j v (by rw [e]; exact hv)
  have hc : w.cell? ⟨q, i * 2 + j, none⟩ = (encs holE (l ++ m)).toArray[i * 2 + j]? := Blk.cell h _
  rw [Nat.zero_add, hc, List.getElem?_toArray]
  exact h0
theorem RoomB.at {w : World} {q : Nat} {L : List Hol} (h : RoomB w q L) : ElsAt holE 2 w q 0 L := fun i hi j v hv => by
  have h0 := encs_at (enc := holE) holE_length L i hi j v hv
  have hc : w.cell? ⟨q, i * 2 + j, none⟩ = (encs holE L).toArray[i * 2 + j]? := Blk.cell h _
  rw [Nat.zero_add, hc, List.getElem?_toArray]
  exact h0
theorem RoomB.free {w : World} {q : Nat} {L : List Hol} (h : RoomB w q L) (i : Nat) : w.frozen? ⟨q, i, none⟩ = false := Blk.free h i
theorem room_spare (n : Nat) : (encs holE (List.replicate (n + 3) zeroH)).drop (n * 2) = encs holE (List.replicate 3 zeroH) := by
  rw [← List.replicate_append_replicate, encs_append]
  exact List.drop_left' (by rw [encs_length holE_length, List.length_replicate])
theorem spare_at {L : List Hol} {n t : Nat} (hL : L.length = n) (h1 : n ≤ t) (h2 : t < (L ++ List.replicate 3 zeroH).length) : (L ++ List.replicate 3 zeroH)[t] = zeroH := by
  rw [List.getElem_append_right (by omega), List.getElem_replicate]

/-- A copy made by 'append([]Inode{}, x...)'. -/
theorem copied {w w' : World} {e : TypeId} {v : Value} {n : Nat} {l : List Hol} (hn : n = l.length) (h : w'.ownsRow 0 e 2 v (0 + n) (encs holE ([] ++ l))) (hg : (w.alloc (.cells #[] e)).grownBy w' (some w.heap.size)) (ha : v.ownBlock = some w.heap.size ∨ v.ownBlock = some (w.alloc (.cells #[] e)).heap.size) :
    ∃ A c, v = .slice A n c ∧ Els holE 2 w' A l ∧ Only [] w w' ∧ ∀ a, A = some a → w.heap.size ≤ a.block := by
  have k1 : Only [] w w' := ((Only.refl [] w).alloc _).grown hg (fun j hj => by simp at hj; exact .inr (by omega))
  rw [Nat.zero_add, List.nil_append] at h
  subst hn
  obtain ⟨A, c, h1, _, h3, _, h5⟩ := els_of_owns (w := w) holE_length h k1 (fun g hg' => by
    rcases ha with h | h
    · rw [h] at hg'; injection hg' with hg'; omega
    · rw [h] at hg'
      injection hg' with hg'
      simp at hg'
      omega)
  exact ⟨A, c, h1, h3, k1, h5⟩

/-- A row of opens in a block of its own, with room. -/
def RowB (w : World) (g c : Nat) (M : List Hol) : Prop := ∃ (cur : Array Value) (T : List Value), Blk w g 47 cur ∧ M.length ≤ c ∧ c ≤ maxLen ∧ cur.size = c * 2 ∧ cur.toList = encs holE M ++ T
theorem RowB.kept {S : List Nat} {w w' : World} {g c : Nat} {M : List Hol} (h : RowB w g c M) (k : Only S w w') (hg : g ∉ S) : RowB w' g c M := by
  obtain ⟨cur, T, h1, h2⟩ := h
  exact ⟨cur, T, h1.kept k hg, h2⟩
theorem RowB.at {w : World} {g c : Nat} {M : List Hol} (h : RowB w g c M) : ElsAt holE 2 w g 0 M := fun i hi j v hv => by
  obtain ⟨cur, T, h1, _, _, _, h5⟩ := h
  have q := encs_at holE_length M i hi j v hv
  rw [Nat.zero_add, h1.cell, ← Array.getElem?_toList, h5, List.getElem?_append_left (List.getElem?_eq_some_iff.1 q).1]
  exact q
theorem RowB.lt {w : World} {g c : Nat} {M : List Hol} (h : RowB w g c M) : g < w.heap.size := by
  obtain ⟨cur, T, h1, _⟩ := h
  exact h1.lt
theorem encs_set (M : List Hol) (i : Nat) (hi : i < M.length) (x : Hol) : encs holE (M.set i x) = (encs holE M).take (i * 2) ++ (holE x ++ (encs holE M).drop (i * 2 + 2)) := by
  unfold encs
  rw [List.map_set]
  exact flat_set 2 (M.map holE) i (holE x) (by intro b hb; simp only [List.mem_map] at hb; obtain ⟨y, _, rfl⟩ := hb; exact holE_length y) (by simpa using hi) (holE_length x)
theorem RowB.store {w : World} {g c i : Nat} {M : List Hol} (h : RowB w g c M) (hi : i < M.length) (x : Hol) : RowB (w.setCells g (i * 2) (holE x)) g c (M.set i x) ∧ Only [g] w (w.setCells g (i * 2) (holE x)) := by
  obtain ⟨cur, T, h1, h2, h3, h4, h5⟩ := h
  refine ⟨?_, Only.setCells (.inl (by simp)) _ _ _ (Only.refl [g] w)⟩
  have hc : cur = cur.toList.toArray := by simp
  rw [hc] at h1
  have hcl : cur.toList.length = c * 2 := by rw [Array.length_toList]; exact h4
  have hfit : i * 2 + (holE x).length ≤ cur.toList.length := by rw [holE_length, hcl]; omega
  have hb := Blk.setCells (holE x) cur.toList (i * 2) w h1 hfit
  have hE : (encs holE M).length = M.length * 2 := encs_length holE_length M
  refine ⟨_, T, hb, by simpa using h2, h3, ?_, ?_⟩
  · rw [holE_length] at hfit ⊢
    rw [List.size_toArray, List.length_append, List.length_append, List.length_take, List.length_drop, holE_length, hcl]
    omega
  · rw [encs_set M i hi, h5, holE_length]
    rw [List.take_append_of_le_length (by omega), List.drop_append_of_le_length (by omega)]
    simp
theorem RowB.there {w : World} {g c i : Nat} {M : List Hol} (h : RowB w g c M) (hi : i < M.length) : w.there g (i * 2) 2 := fun j hj => by
  obtain ⟨cur, T, h1, h2, h3, h4, h5⟩ := h
  refine ⟨?_, h1.free _⟩
  rw [h1.cell, Array.getElem?_eq_getElem (by omega)]
  rfl
section
variable {ops : Array Oper} {rest : List Oper} {o : Oper} {a : Act} {w : World} {Q : Exit → Act → World → Prop}
/-- An open goes into a row. -/
theorem wpList_store_row (hgd : o.guard = none) (x y : Operand) (ho : o.op = .store 47 x y) (g i c : Nat) (M : List Hol) (p : Hol) (hx : a.eval x = .pointer (some ⟨g, i * 2, none⟩)) (hy : a.eval y = holV p) (hr : RowB w g c M) (hi : i < M.length)
    (h : ∀ w', RowB w' g c (M.set i p) → Only [g] w w' → wpList Try.prog ops Q rest (a.put o.dst undef) w') : wpList Try.prog ops Q (o :: rest) a w :=
  wpList_store_mid hgd 47 x y ho g (i * 2) (holA p) hx hy (hr.there hi) size_hol (by simp [holA, Value.oneCell']) (h _ (hr.store hi p).1 (hr.store hi p).2)
end

end Go.Proofs.Ytnmmdnecojgccaa
