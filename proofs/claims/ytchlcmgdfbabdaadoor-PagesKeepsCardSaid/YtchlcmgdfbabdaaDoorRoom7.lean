/- PagesKeeps: what is handed in is neither changed nor kept, and answers are new memory. -/
import Derived.Test.YtchlcmgdfbabdaaDoorOpen7
import Derived.Test.YtchlcmgdfbabdaaDoorYes7
import Derived.Laws.MakeOwn
import Derived.Laws.StructEq
import Derived.Deep.AppendSrc
import Derived.Deep.Upon
namespace Go.Proofs.YtchlcmgdfbabdaaDoor.Pgs
open Go.RowKit

section
variable {α : Type} {enc : α → List Value} {k : Nat} {w : World} {P : Program}
theorem encs_append (l m : List α) : encs enc (l ++ m) = encs enc l ++ encs enc m := by simp [encs]
theorem els_news (hk : ∀ x, (enc x).length = k) (h0 : 0 < k) {g o : Nat} {l : List α} (h : ElsAt enc k w g o l) : ∀ j u, (encs enc l)[j]? = some u → w.cell? ((⟨g, o, none⟩ : Addr).add j) = some u := by
  intro j u hu
  rw [addr_add]
  have hj : j < l.length * k := by
    have := (List.getElem?_eq_some_iff.1 hu).1
    rwa [encs_length hk] at this
  have hi : j / k < l.length := Nat.div_lt_of_lt_mul (by rw [Nat.mul_comm]; exact hj)
  have hr : j % k < (enc l[j / k]).length := by rw [hk]; exact Nat.mod_lt _ h0
  have hv := List.getElem?_eq_getElem hr
  have e : j / k * k + j % k = j := by rw [Nat.mul_comm]; exact Nat.div_add_mod j k
  have h1 := encs_at hk l (j / k) hi (j % k) _ hv
  rw [e, hu] at h1
  injection h1 with h1
  have h2 := h (j / k) hi (j % k) _ hv
  rw [Nat.add_assoc, e, ← h1] at h2
  exact h2
theorem wpList_append_els (hk : ∀ x, (enc x).length = k) (h0 : 0 < k) (h1 : ∀ x, ∀ v ∈ enc x, v.oneCell' = true) {ops : Array Oper} {rest : List Oper} {o : Oper} {a : Act} {Q : Exit → Act → World → Prop} (hgd : o.guard = none) (s y : Operand) (t : TypeId)
    (ho : o.op = .call { callee := .builtin .append, args := #[s, y], argTypes := #[t, t] })
    (e : TypeId) (z : Value) (bytes : Nat) (ht : P.underlying t = some (.slice e)) (hinfo : (P.info? e).map (fun i => (i.zero, i.size, i.bytes)) = some (some z, k, bytes)) (hzs : z.cells.size = k)
    (v : Value) (n : Nat) (xs : List α) (hs : a.eval s = v) (hown : w.ownsRow 0 e k v n (encs enc xs))
    (g p m c : Nat) (ys : List α) (hm : m = ys.length) (hx : a.eval y = .slice (some ⟨g, p, none⟩) m c) (hsrc : ElsAt enc k w g p ys)
    (h63 : n + m ≤ maxLen) (hbytes : (n + m) * bytes ≤ 140737488355328)
    (h : ∀ v' w', w'.ownsRow 0 e k v' (n + m) (encs enc (xs ++ ys)) → w.grownBy w' v.ownBlock → (v'.ownBlock = v.ownBlock ∨ v'.ownBlock = some w.heap.size) → wpList P ops Q rest (a.put o.dst v') w') : wpList P ops Q (o :: rest) a w := by
  subst hm
  refine wpList_plain hgd fun K hK => ?_
  obtain ⟨i, hi, hz0, hz1, hz2⟩ := info_parts hinfo
  obtain ⟨v', w', hrun, h2, h3, _, h4⟩ := run_append_own_at (P := P) w 0 t o.type e i z k bytes ht hi hz0 hz1 hz2 hzs h0 v n (encs enc xs) hown ⟨g, p, none⟩ ys.length c (encs enc ys) (encs_length hk ys) (els_news hk h0 hsrc) (encs_one h1 ys) h63 hbytes (Nat.zero_le _)
  rw [← encs_append] at h2
  unfold Oper.wp execOp
  simp only [ho, resolve, invoke, builtin, Sem.run_bind, Sem.run_pure, Result.andThen_ok, List.map_toArray, List.map_cons, List.map_nil, hs, hx, hrun]
  exact hK _ _ (h v' w' h2 h3 h4)
/-- 'append(s, y...)', y empty or not. -/
theorem wpList_append_any (hk : ∀ x, (enc x).length = k) (h0 : 0 < k) (h1 : ∀ x, ∀ v ∈ enc x, v.oneCell' = true) {ops : Array Oper} {rest : List Oper} {o : Oper} {a : Act} {Q : Exit → Act → World → Prop} (hgd : o.guard = none) (s y : Operand) (t : TypeId)
    (ho : o.op = .call { callee := .builtin .append, args := #[s, y], argTypes := #[t, t] })
    (e : TypeId) (z : Value) (bytes : Nat) (ht : P.underlying t = some (.slice e)) (hinfo : (P.info? e).map (fun i => (i.zero, i.size, i.bytes)) = some (some z, k, bytes)) (hzs : z.cells.size = k)
    (v : Value) (n : Nat) (xs : List α) (hs : a.eval s = v) (hown : w.ownsRow 0 e k v n (encs enc xs))
    (A : Option Addr) (c : Nat) (ys : List α) (hx : a.eval y = .slice A ys.length c) (hsrc : Els enc k w A ys)
    (h63 : n + ys.length ≤ maxLen) (hbytes : (n + ys.length) * bytes ≤ 140737488355328)
    (h : ∀ v' w', w'.ownsRow 0 e k v' (n + ys.length) (encs enc (xs ++ ys)) → w.grownBy w' v.ownBlock → (v'.ownBlock = v.ownBlock ∨ v'.ownBlock = some w.heap.size) → wpList P ops Q rest (a.put o.dst v') w') : wpList P ops Q (o :: rest) a w := by
  rcases hsrc with hnil | ⟨g, p, rfl, hg, hat⟩
  · subst hnil
    refine wpList_plain hgd fun K hK => ?_
    obtain ⟨i, hi, hz0, hz1, hz2⟩ := info_parts hinfo
    have hsrc : Src P i.size t (.slice A 0 c) 0 [] w := by
      cases A with
      | none => exact Src.ofNil w ht c
      | some a => exact Src.ofSlice w ht a 0 c [] (by simp) (fun j u hj => by simp at hj) (fun _ h => by cases h)
    have hrun : (Builtin.append_ #[t, t] o.type #[v, .slice A 0 c]).run P w = .ok v w := by
      rcases id hown.2 with ⟨rfl, rfl⟩ | ⟨g, cap, cur, rfl, _, _, hnc, _⟩
      · exact run_append_nothing w t t o.type e i ht hi none 0 0 (Nat.le_refl _) _ hsrc
      · exact run_append_nothing w t t o.type e i ht hi _ n cap hnc _ hsrc
    simp only [List.length_nil] at hx
    unfold Oper.wp execOp
    simp only [ho, resolve, invoke, builtin, Sem.run_bind, Sem.run_pure, Result.andThen_ok, List.map_toArray, List.map_cons, List.map_nil, hs, hx, hrun]
    exact hK _ _ (h v w (by simpa using hown) (World.grownBy.refl _ _) (.inl rfl))
  · exact wpList_append_els hk h0 h1 hgd s y t ho e z bytes ht hinfo hzs v n xs hs hown g p ys.length c ys rfl hx hat h63 hbytes h

end

def zpg : Pg := ⟨0, []⟩
theorem zpg_cells (m : Nat) (z : Value) (hz : z.cells = #[.int .i64 0, .string ⟨#[]⟩]) : (madeCells z.cells (m * 2)).toList = encs pgE (List.replicate m zpg) := by
  rw [hz]
  apply List.ext_getElem?
  intro j
  by_cases hj : j < m * 2
  · have hd : j / 2 < (List.replicate m zpg).length := by rw [List.length_replicate]; omega
    have hr : j % 2 < 2 := Nat.mod_lt _ (by decide)
    have hx : (List.replicate m zpg)[j / 2] = zpg := List.getElem_replicate _
    have h1 := encs_at (enc := pgE) pgE_length (List.replicate m zpg) (j / 2) hd (j % 2)
    rw [hx, show j / 2 * 2 + j % 2 = j by omega] at h1
    have h2 : (madeCells #[Value.int .i64 0, .string ⟨#[]⟩] (m * 2)).toList[j]? = some (#[Value.int .i64 0, .string ⟨#[]⟩][j % 2]'(by simpa using hr)) := by
      rw [List.getElem?_eq_getElem (by simp [size_madeCells]; omega)]
      simp [madeCells, hr]
    rw [h2]
    have h01 : j % 2 = 0 ∨ j % 2 = 1 := by omega
    rcases h01 with h | h
    · rw [h1 (.int .i64 0) (by rw [h]; rfl)]
      simp [h]
    · rw [h1 (.string ⟨#[]⟩) (by rw [h]; rfl)]
      simp [h]
  · rw [List.getElem?_eq_none (by simp [size_madeCells]; omega), List.getElem?_eq_none (by rw [encs_length pgE_length, List.length_replicate]; omega)]

/-- 'make([]Page, n, m)'. -/
theorem wpList_make_room {w : World} {ops : Array Oper} {rest : List Oper} {o : Oper} {a : Act} {Q : Exit → Act → World → Prop}
    (hg : o.guard = none) (l c : Operand) (hop : o.op = Op.makeSlice 22 l c) (L C : Int) (n m : Nat) (hl : a.eval l = .int .i64 L) (hc : a.eval c = .int .i64 C) (hL : L = n) (hC : C = m) (hnm : n ≤ m) (hfew : m ≤ 1000)
    (hK : wpList Tryd.prog ops Q rest (a.put o.dst (.slice (some ⟨w.heap.size, 0, none⟩) n m)) (w.alloc (.cells (encs pgE (List.replicate m zpg)).toArray 53))) :
    wpList Tryd.prog ops Q (o :: rest) a w := by
  refine wpList_plain hg fun K hK' => ?_
  obtain ⟨i, hi, hz0, hz1, hz2⟩ := info_parts info_pg
  subst hL
  subst hC
  have hr := run_make (P := Tryd.prog) w 22 53 i _ Tryd.underlying22 hi hz0 .i64 .i64 n m (by omega) (by omega) (by rw [hz2]; omega) (by omega)
  simp only [Int.toNat_natCast, hz1] at hr
  have hm := zpg_cells m (.agg #[.int .i64 0, .string ⟨#[]⟩]) rfl
  have hm' : madeCells (Value.agg #[.int .i64 0, .string ⟨#[]⟩]).cells (m * 2) = (encs pgE (List.replicate m zpg)).toArray := by rw [← hm]
  rw [hm'] at hr
  unfold Oper.wp
  simp only [execOp, hop, hl, hc, Sem.run_bind, hr, Result.andThen_ok, Sem.run_pure]
  exact hK' _ _ hK

/-- 'copy(room, l)' of structs: as many as both have. -/
theorem wpList_copy_els {P : Program} {α : Type} {enc : α → List Value} {k : Nat} {w : World} {ops : Array Oper} {rest : List Oper} {o : Oper} {a : Act} {Q : Exit → Act → World → Prop} (hk : ∀ x, (enc x).length = k) (h1 : ∀ x, ∀ v ∈ enc x, v.oneCell' = true)
    (hgd : o.guard = none) (d s : Operand) (dT sT : TypeId) (ho : o.op = .call { callee := .builtin .copy, args := #[d, s], argTypes := #[dT, sT] }) (elem : TypeId) (hu : P.underlying dT = some (.slice elem)) (hsz : (P.info? elem).map (·.size) = some k)
    (q n dCap sCap : Nat) (A : Option Addr) (l : List α) (hn : n = l.length) (hd : a.eval d = .slice (some ⟨q, 0, none⟩) n dCap) (hs : a.eval s = .slice A n sCap) (hA : Els enc k w A l) (hk0 : 0 < k)
    (cur : List Value) (t : TypeId) (hq : Blk w q t cur.toArray) (hfit : n * k ≤ cur.length)
    (h : ∀ w', Blk w' q t (encs enc l ++ cur.drop (n * k)).toArray → Only [q] w w' → wpList P ops Q rest (a.put o.dst (goInt n)) w') : wpList P ops Q (o :: rest) a w := by
  have hlen : (encs enc l).length = n * k := by rw [encs_length hk, hn]
  have hst := run_storeCells_cells (P := P) q 0 (encs enc l) 0 w (fun j hj => by
    rw [hq.cell]
    simp only [List.getElem?_toArray, Nat.zero_add]
    rw [List.getElem?_eq_getElem (by omega)]
    rfl) (fun j _ => hq.free _) (encs_one h1 l)
  simp only [Nat.add_zero] at hst
  have hb := Blk.setCells (encs enc l) cur 0 w hq (by omega)
  simp only [List.take_zero, List.nil_append, Nat.zero_add, hlen] at hb
  have hrun : (Builtin.copy_ #[dT, sT] o.type #[.slice (some ⟨q, 0, none⟩) n dCap, .slice A n sCap]).run P w = .ok (goInt n) (w.setCells q 0 (encs enc l)) := by
    cases hqi : P.info? elem with
    | none => simp [hqi] at hsz
    | some i =>
      have hi : i.size = k := by simpa [hqi] using hsz
      rcases hA with h0 | ⟨g, off, rfl, _, hat⟩
      · subst h0
        have hn0 : n = 0 := by simpa using hn
        subst hn0
        have hl : ∀ (x : Addr), (loadCells x 0).run P w = .ok #[] w := fun x => by simpa using run_loadCells_list (P := P) w x [] (by simp)
        cases A <;> simp [Builtin.copy_, run_underlying hu, Builtin.lenOf, Builtin.firstCells, sizeOf, typeInfo, hqi, storeCells, hl, encs, World.setCells]
      · have hl := run_loadCells_list (P := P) w ⟨g, off, none⟩ (encs enc l) (els_news hk hk0 hat)
        rw [hlen] at hl
        simp [Builtin.copy_, run_underlying hu, Builtin.lenOf, Builtin.firstCells, sizeOf, typeInfo, hqi, hi, hl, hst]
  refine wpList_plain hgd fun K hK => ?_
  unfold Oper.wp execOp
  simp only [ho, resolve, invoke, builtin, Sem.run_bind, Sem.run_pure, Result.andThen_ok, List.map_toArray, List.map_cons, List.map_nil, hd, hs, hrun]
  exact hK _ _ (h _ hb (Only.setCells (.inl (by simp)) _ _ _ (Only.refl [q] w)))

theorem pgs_set : ∀ (l : List Pg) (k : Nat) (y : Pg), encs pgE (l.set k y) = ((encs pgE l).set (k * 2) (.int .i64 y.n)).set (k * 2 + 1) (.string (strOf y.d))
  | [], k, y => by simp [encs]
  | x :: r, 0, y => by simp [encs, pgE]
  | x :: r, k + 1, y => by
    have ih := pgs_set r k y
    have e1 : (k + 1) * 2 = k * 2 + 1 + 1 := by omega
    have hc : ∀ z t, encs pgE (z :: t) = .int .i64 z.n :: .string (strOf z.d) :: encs pgE t := fun z t => by simp [encs, pgE]
    rw [List.set_cons_succ, hc, hc, ih, e1]
    simp only [List.set_cons_succ]
theorem encs_app (l m : List Pg) : encs pgE (l ++ m) = encs pgE l ++ encs pgE m := by simp [encs]
/-- A room holds the pages L. -/
def RoomB (w : World) (q : Nat) (L : List Pg) : Prop := Blk w q 53 (encs pgE L).toArray
theorem RoomB.kept {S : List Nat} {w w' : World} {q : Nat} {L : List Pg} (h : RoomB w q L) (k : Only S w w') (hq : q ∉ S) : RoomB w' q L := Blk.kept h k hq
theorem RoomB.at {w : World} {q : Nat} {L : List Pg} (h : RoomB w q L) {i : Nat} (hi : i < L.length) : w.cell? ⟨q, i * 2, none⟩ = some (.int .i64 L[i].n) ∧ w.cell? ⟨q, i * 2 + 1, none⟩ = some (.string (strOf L[i].d)) := by
  have h0 := encs_at (enc := pgE) pgE_length L i hi 0 _ rfl
  have h1 := encs_at (enc := pgE) pgE_length L i hi 1 _ rfl
  have e : ∀ j, w.cell? ⟨q, j, none⟩ = (encs pgE L).toArray[j]? := fun j => Blk.cell h j
  refine ⟨?_, ?_⟩
  · rw [e, List.getElem?_toArray]
    simpa using h0
  · rw [e, List.getElem?_toArray]
    exact h1
theorem RoomB.els {w : World} {q : Nat} {l m : List Pg} (h : RoomB w q (l ++ m)) : Els pgE 2 w (some ⟨q, 0, none⟩) l := by
  refine .inr ⟨q, 0, rfl, Blk.lt h, fun i hi j v hv => ?_⟩
  have hi' : i < (l ++ m).length := by rw [List.length_append]; omega
  have e : (l ++ m)[i] = l[i] := List.getElem_append_left hi
  have h0 := encs_at (enc := pgE) pgE_length (l ++ m) i hi' j v (by rw [e]; exact hv)
  have hc : w.cell? ⟨q, i * 2 + j, none⟩ = (encs pgE (l ++ m)).toArray[i * 2 + j]? := Blk.cell h _
  rw [Nat.zero_add, hc, List.getElem?_toArray]
  exact h0
theorem RoomB.set {w : World} {q : Nat} {L : List Pg} (h : RoomB w q L) (k : Nat) (y : Pg) : RoomB ((w.setCell ⟨q, k * 2, none⟩ (.int .i64 y.n)).setCell ⟨q, k * 2 + 1, none⟩ (.string (strOf y.d))) q (L.set k y) := by
  have h1 := Blk.set (Blk.set h (k * 2) (.int .i64 y.n)) (k * 2 + 1) (.string (strOf y.d))
  unfold RoomB
  rw [pgs_set]
  simpa using h1
theorem RoomB.free {w : World} {q : Nat} {L : List Pg} (h : RoomB w q L) (i : Nat) : w.frozen? ⟨q, i, none⟩ = false := Blk.free h i

theorem room_spare (n : Nat) : (encs pgE (List.replicate (n + 3) zpg)).drop (n * 2) = encs pgE (List.replicate 3 zpg) := by
  rw [← List.replicate_append_replicate, encs_app]
  exact List.drop_left' (by rw [encs_length pgE_length, List.length_replicate])
theorem zpg_at {L : List Pg} {n t : Nat} (hL : L.length = n) (h1 : n ≤ t) (h2 : t < (L ++ List.replicate 3 zpg).length) : (L ++ List.replicate 3 zpg)[t] = zpg := by
  rw [List.getElem_append_right (by omega), List.getElem_replicate]

/-- A copy made by 'append([]Page{}, x...)'. -/
theorem copied {w w' : World} {e : TypeId} {v : Value} {n : Nat} {l : List Pg} (hn : n = l.length) (h : w'.ownsRow 0 e 2 v (0 + n) (encs pgE ([] ++ l))) (hg : (w.alloc (.cells #[] e)).grownBy w' (some w.heap.size)) (ha : v.ownBlock = some w.heap.size ∨ v.ownBlock = some (w.alloc (.cells #[] e)).heap.size) :
    ∃ A c, v = .slice A n c ∧ Els pgE 2 w' A l ∧ Only [] w w' ∧ ∀ a, A = some a → w.heap.size ≤ a.block := by
  have k1 : Only [] w w' := ((Only.refl [] w).alloc _).grown hg (fun j hj => by simp at hj; exact .inr (by omega))
  rw [Nat.zero_add, List.nil_append] at h
  subst hn
  obtain ⟨A, c, h1, _, h3, _, h5⟩ := els_of_owns (w := w) pgE_length h k1 (fun g hg' => by
    rcases ha with h | h
    · rw [h] at hg'; injection hg' with hg'; omega
    · rw [h] at hg'
      injection hg' with hg'
      simp at hg'
      omega)
  exact ⟨A, c, h1, h3, k1, h5⟩

end Go.Proofs.YtchlcmgdfbabdaaDoor.Pgs
