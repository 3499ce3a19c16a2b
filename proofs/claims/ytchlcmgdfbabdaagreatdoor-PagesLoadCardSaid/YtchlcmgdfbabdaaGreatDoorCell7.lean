/- A body and a page in memory: copied into, cleared, compared, loaded, stored. -/
import Derived.Test.YtchlcmgdfbabdaaGreatDoorRight7
import Derived.Laws.CopyOwn
import Derived.Lib.SliceRun
import Derived.Stop.BytesEq
namespace Go.Proofs.YtchlcmgdfbabdaaGreatDoor.Pgs
open Go.RowKit

theorem byteVs_lay (b x : List UInt8) (off : Nat) : byteVs (lay b off x) = (byteVs b).take off ++ (byteVs x ++ (byteVs b).drop (off + (byteVs x).length)) := by
  simp [byteVs, lay]
theorem lay_none (b : List UInt8) (off : Nat) : lay b off [] = b := by simp [lay]
theorem chunk_byteVs (b : List UInt8) (k : Nat) : ∀ j v, (byteVs (chunk b k))[j]? = some v → (byteVs b)[k * 32 + j]? = some v := by
  intro j v hj
  have hl := (List.getElem?_eq_some_iff.1 hj).1
  simp only [byteVs, chunk, List.getElem?_map, List.getElem?_take, List.getElem?_drop] at hj ⊢
  split at hj
  · exact hj
  · simp at hj
theorem whole_lay (b x : List UInt8) (h : x.length = b.length) : lay b 0 x = x := by
  simp [lay, h]

theorem zero_body : (Tryz.prog.info? 71).map (fun i => (i.zero, i.size)) = some (some (.agg (byteVs (zs 1024)).toArray), 1024) := by
  have e : (byteVs (zs 1024)).toArray = Array.replicate 1024 (.int .u8 0) := by
    unfold zs byteVs
    rw [List.map_replicate, List.toArray_replicate]
    rfl
  have h : (Tryz.prog.info? 71).map (fun i => (i.zero, i.size)) = some (some (.agg (Array.replicate 1024 (.int .u8 0))), 1024) := by kernel_rfl
  rw [e]
  exact h
theorem zero_page : (Tryz.prog.info? 86).map (fun i => (i.zero, i.size)) = some (some (.agg (byteVs (zs 32)).toArray), 32) := by
  have e : (byteVs (zs 32)).toArray = Array.replicate 32 (.int .u8 0) := by
    unfold zs byteVs
    rw [List.map_replicate, List.toArray_replicate]
    rfl
  have h : (Tryz.prog.info? 86).map (fun i => (i.zero, i.size)) = some (some (.agg (Array.replicate 32 (.int .u8 0))), 32) := by kernel_rfl
  rw [e]
  exact h

section
variable {P : Program} {w : World} {ops : Array Oper} {rest : List Oper} {o : Oper} {a : Act} {Q : Exit → Act → World → Prop}

/-- A string goes into a block of bytes from some place on. -/
theorem wpList_copy_text (hgd : o.guard = none) (d s : Operand) (dT sT : TypeId)
    (ho : o.op = .call { callee := .builtin .copy, args := #[d, s], argTypes := #[dT, sT] }) (elem : TypeId) (hu : P.underlying dT = some (.slice elem)) (hsz : (P.info? elem).map (·.size) = some 1)
    (g off off' n dCap : Nat) (b : List UInt8) (hd : a.eval d = .slice (some ⟨g, off', none⟩) n dCap) (hs : a.eval s = .string (strOf b))
    (cur : List UInt8) (t : TypeId) (hg : Blk w g t (byteVs cur).toArray) (hn : b.length ≤ n) (hoff : b ≠ [] → off' = off) (hfit : off + b.length ≤ cur.length) (hfit' : off' + b.length ≤ cur.length)
    (h : ∀ w', Blk w' g t (byteVs (lay cur off b)).toArray → Only [g] w w' → wpList P ops Q rest (a.put o.dst (goInt b.length)) w') : wpList P ops Q (o :: rest) a w := by
  refine wpList_plain hgd fun K hK => ?_
  have hrun := Lib.run_copy_row_string (P := P) w dT sT o.type elem g off' n dCap (strOf b) (byteVs cur).toArray t hu hsz hg (by rw [strOf_size]; exact hn) (by rw [strOf_size]; simpa [byteVs_length] using hfit')
  unfold Oper.wp
  simp [execOp, ho, resolve, invoke, builtin, hd, hs, hrun, Result.andThen]
  rw [strOf_size]
  refine hK _ _ (h _ ?_ ((Only.refl [g] w).setRow (.inl (by simp)) _))
  unfold Blk
  rw [setRow_heap w g (byteVs cur).toArray _ t _ hg]
  by_cases hb : b = []
  · subst hb
    simp [strOf_list, byteCells_byteVs, lay_none, byteVs]
  · rw [byteVs_lay, hoff hb]
    simp [strOf_list, byteCells_byteVs, byteVs_length]

/-- A page's bytes go into a new page. -/
theorem wpList_copy_page (hgd : o.guard = none) (d s : Operand) (dT sT : TypeId)
    (ho : o.op = .call { callee := .builtin .copy, args := #[d, s], argTypes := #[dT, sT] }) (elem : TypeId) (hu : P.underlying dT = some (.slice elem)) (hsz : (P.info? elem).map (·.size) = some 1)
    (q g k dCap sCap n : Nat) (hd : a.eval d = .slice (some ⟨q, 0, none⟩) 32 dCap) (hs : a.eval s = .slice (some ⟨g, k * 32, none⟩) n sCap) (hn : 32 ≤ n)
    (cur b : List UInt8) (t u : TypeId) (hq : Blk w q t (byteVs cur).toArray) (hc : cur.length = 32) (hg : Blk w g u (byteVs b).toArray) (hfit : k * 32 + 32 ≤ b.length)
    (h : ∀ w', Blk w' q t (byteVs (chunk b k)).toArray → Only [q] w w' → wpList P ops Q rest (a.put o.dst (goInt 32)) w') : wpList P ops Q (o :: rest) a w := by
  have hl : (chunk b k).length = 32 := by unfold chunk; rw [List.length_take, List.length_drop]; omega
  have hl' : (byteVs (chunk b k)).length = 32 := by rw [byteVs_length, hl]
  refine wpList_copy_own hgd d s dT sT ho elem hu hsz q 0 32 dCap ⟨g, k * 32, none⟩ n sCap hd hs (byteVs cur).toArray t hq (byteVs (chunk b k)) (by rw [hl']; exact (Nat.min_eq_right hn).symm) (fun j v hj => ?_) (by rw [hl']; simp [byteVs_length, hc]) (byteVs_one _) ?_
  · rw [addr_add, hg.cell]
    simpa using chunk_byteVs b k j v hj
  · rw [hl']
    refine h _ ?_ ((Only.refl [q] w).setRow (.inl (by simp)) _)
    unfold Blk
    rw [setRow_heap w q _ _ t _ hq]
    simp [byteVs, hc]

theorem Only.setCells {S : List Nat} {a : World} {g : Nat} (hg : g ∈ S ∨ a.heap.size ≤ g) : ∀ (vs : List Value) (o : Nat) (w : World), Only S a w → Only S a (w.setCells g o vs)
  | [], _, _, h => h
  | v :: r, o, _, h => Only.setCells hg r (o + 1) _ (h.setCell hg v)
theorem Blk.setCells {g : Nat} {t : TypeId} : ∀ (vs cs : List Value) (o : Nat) (w : World), Blk w g t cs.toArray → o + vs.length ≤ cs.length → Blk (w.setCells g o vs) g t (cs.take o ++ (vs ++ cs.drop (o + vs.length))).toArray
  | [], cs, o, _, h, _ => by simpa [World.setCells] using h
  | v :: r, cs, o, w, h, hl => by
    rw [World.setCells]
    have h1 := h.set o v
    rw [List.setIfInBounds_toArray] at h1
    have h2 := Blk.setCells r (cs.set o v) (o + 1) _ h1 (by simp at hl ⊢; omega)
    have e : (cs.set o v).take (o + 1) ++ (r ++ (cs.set o v).drop (o + 1 + r.length)) = cs.take o ++ (v :: r ++ cs.drop (o + (v :: r).length)) := by
      simp only [List.length_cons] at hl ⊢
      rw [List.take_add_one, List.take_set_of_le (Nat.le_refl _), List.getElem?_set_self (by omega), List.drop_set_of_lt (by omega)]
      simp [Nat.add_comm, Nat.add_left_comm]
    rw [e] at h2
    exact h2

/-- 'clear(b[m:])'. -/
theorem wpList_clear (hgd : o.guard = none) (d : Operand) (dT : TypeId) (ho : o.op = .call { callee := .builtin .clear, args := #[d], argTypes := #[dT] })
    (e : TypeId) (hu : P.underlying dT = some (.slice e)) (hv : ∀ w, (zeroValue e).run P w = .ok (.int .u8 0) w)
    (g off off' n dCap : Nat) (hd : a.eval d = .slice (some ⟨g, off', none⟩) n dCap) (b : List UInt8) (t : TypeId) (hg : Blk w g t (byteVs b).toArray) (hb : b.length = 1024) (hn : off + n = 1024) (hoff : n ≠ 0 → off' = off)
    (h : ∀ w', Blk w' g t (byteVs (cutB b off)).toArray → Only [g] w w' → wpList P ops Q rest (a.put o.dst (.tuple #[])) w') : wpList P ops Q (o :: rest) a w := by
  refine wpList_plain hgd fun K hK => ?_
  by_cases h0 : n = 0
  · subst h0
    have hrun : (Builtin.clear_ #[dT] o.type #[.slice (some ⟨g, off', none⟩) 0 dCap]).run P w = .ok (.tuple #[]) w := by
      simp [Builtin.clear_, run_underlying hu]
    unfold Oper.wp
    simp [execOp, ho, resolve, invoke, builtin, hd, hrun, Result.andThen]
    have h1 := h w (by
      have : cutB b off = b := by
        rw [show off = 1024 by omega]
        unfold cutB
        rw [List.take_of_length_le (by omega)]
        simp [zs]
      rw [this]; exact hg) (Only.refl _ _)
    exact hK _ _ h1
  · have ho' := hoff h0
    subst ho'
    have hrun := Lib.run_clear_slice (P := P) w dT e o.type (.int .u8 0) hu hv rfl rfl g off' n dCap (by omega) (fun j hj => by
      rw [hg.cell]
      simp only [List.getElem?_toArray]
      rw [List.getElem?_eq_getElem (by rw [byteVs_length]; omega)]
      rfl) (fun j _ => hg.free _)
    unfold Oper.wp
    simp [execOp, ho, resolve, invoke, builtin, hd, hrun, Result.andThen]
    have h1 := h _ (by
      have hs := Blk.setCells (List.replicate n (.int .u8 0)) (byteVs b) off' w hg (by rw [byteVs_length, List.length_replicate]; omega)
      have e : (byteVs b).take off' ++ (List.replicate n (.int .u8 0) ++ (byteVs b).drop (off' + (List.replicate n (Value.int .u8 0)).length)) = byteVs (cutB b off') := by
        rw [List.length_replicate, List.drop_of_length_le (by rw [byteVs_length]; omega)]
        simp [byteVs, cutB, zs, byteV, show 1024 - off' = n by omega]
      rw [e] at hs
      exact hs) (Only.setCells (.inl (by simp)) _ _ _ (Only.refl [g] w))
    exact hK _ _ h1

theorem eqGuard_arr (op : BinOp) (t : TypeId) (x y : Operand) (xs ys : Array Value) (hm : P.eqGuardType P.depth t = false) : (eqGuard op t x y (.agg xs) (.agg ys)).run P w = .ok () w := run_eqGuard_agg (P := P) w op t x y xs ys hm

theorem run_eql_page (t e : TypeId) (ht : P.underlying t = some (.array 32 e)) (he : P.underlying e = some (.int .u8)) (hsz : ∀ w, (sizeOf e).run P w = .ok 1 w) (l m : List UInt8) (hl : l.length = 32) (hm : m.length = 32) :
    (binOp .eql t (.agg (byteVs l).toArray) (.agg (byteVs m).toArray)).run P w = .ok (.bool (l == m)) w := run_eql_bytes (P := P) w t e 32 ht he hsz l m hl hm
theorem run_neq_page (t e : TypeId) (ht : P.underlying t = some (.array 32 e)) (he : P.underlying e = some (.int .u8)) (hsz : ∀ w, (sizeOf e).run P w = .ok 1 w) (l m : List UInt8) (hl : l.length = 32) (hm : m.length = 32) :
    (binOp .neq t (.agg (byteVs l).toArray) (.agg (byteVs m).toArray)).run P w = .ok (.bool (!(l == m))) w := by
  have h := run_equalIn_bytes (P := P) w 9998 t e 32 ht he hsz l m hl hm
  rw [run_neq_struct]
  show Result.andThen ((Op.equalIn (9998 + 2) t (.agg (l.map Extern.Stop.cell).toArray) (.agg (m.map Extern.Stop.cell).toArray)).run P w) _ = _
  rw [h]
  rfl

/-- Two pages compared. -/
theorem wpList_eql_page (hgd : o.guard = none) (x y : Operand) (t e u : TypeId) (ho : o.op = .binOp .eql t x y u) (hm : P.eqGuardType P.depth t = false) (ht : P.underlying t = some (.array 32 e)) (he : P.underlying e = some (.int .u8)) (hsz : ∀ w, (sizeOf e).run P w = .ok 1 w)
    (l m : List UInt8) (X Y : Array Value) (r : Bool) (hx : a.eval x = .agg X) (hy : a.eval y = .agg Y) (hX : X = (byteVs l).toArray) (hY : Y = (byteVs m).toArray) (hl : l.length = 32) (hml : m.length = 32) (hr : (l == m) = r)
    (h : wpList P ops Q rest (a.put o.dst (.bool r)) w) : wpList P ops Q (o :: rest) a w := by
  subst hX
  subst hY
  subst hr
  refine wpList_plain hgd fun K hK => ?_
  unfold Oper.wp
  simp only [execOp, ho, hx, hy, Sem.run_bind, Sem.run_pure, Result.andThen_ok, eqGuard_arr _ _ _ _ _ _ hm, run_eql_page (P := P) t e ht he hsz l m hl hml]
  exact hK _ _ h
theorem wpList_neq_page (hgd : o.guard = none) (x y : Operand) (t e u : TypeId) (ho : o.op = .binOp .neq t x y u) (hm : P.eqGuardType P.depth t = false) (ht : P.underlying t = some (.array 32 e)) (he : P.underlying e = some (.int .u8)) (hsz : ∀ w, (sizeOf e).run P w = .ok 1 w)
    (l m : List UInt8) (X Y : Array Value) (r : Bool) (hx : a.eval x = .agg X) (hy : a.eval y = .agg Y) (hX : X = (byteVs l).toArray) (hY : Y = (byteVs m).toArray) (hl : l.length = 32) (hml : m.length = 32) (hr : (!(l == m)) = r)
    (h : wpList P ops Q rest (a.put o.dst (.bool r)) w) : wpList P ops Q (o :: rest) a w := by
  subst hX
  subst hY
  subst hr
  refine wpList_plain hgd fun K hK => ?_
  unfold Oper.wp
  simp only [execOp, ho, hx, hy, Sem.run_bind, Sem.run_pure, Result.andThen_ok, eqGuard_arr _ _ _ _ _ _ hm, run_neq_page (P := P) t e ht he hsz l m hl hml]
  exact hK _ _ h
end

/-- .. as a step of a region that draws its order. -/
theorem step_eql_page {P : Program} {ops : Array Oper} {o : Oper} {a : Act} {w : World} {K : Act → World → Prop} {Q : Exit → Act → World → Prop} {E : Prop} (hgd : o.guard = none) (x y : Operand) (t e u : TypeId) (ho : o.op = .binOp .eql t x y u) (hm : P.eqGuardType P.depth t = false) (ht : P.underlying t = some (.array 32 e)) (he : P.underlying e = some (.int .u8)) (hsz : ∀ w, (sizeOf e).run P w = .ok 1 w)
    (l m : List UInt8) (X Y : Array Value) (r : Bool) (hx : a.eval x = .agg X) (hy : a.eval y = .agg Y) (hX : X = (byteVs l).toArray) (hY : Y = (byteVs m).toArray) (hl : l.length = 32) (hml : m.length = 32) (hr : (l == m) = r)
    (h : K (a.put o.dst (.bool r)) w) : if Region.wanted o (yielded ops a.tmps) = true then Oper.wp P o a w K Q else E := by
  have hw : Region.wanted o (yielded ops a.tmps) = true := by simp [Region.wanted, hgd]
  rw [if_pos hw]
  subst hX
  subst hY
  subst hr
  unfold Oper.wp
  simp only [execOp, ho, hx, hy, Sem.run_bind, Sem.run_pure, Result.andThen_ok, eqGuard_arr _ _ _ _ _ _ hm, run_eql_page (P := P) t e ht he hsz l m hl hml]
  exact h

theorem Blk.range {w : World} {g : Nat} {t : TypeId} {b : List UInt8} (h : Blk w g t (byteVs b).toArray) : w.rangeAt g 0 (byteVs b) := fun j v hj => by
  rw [Nat.zero_add, h.cell]
  simpa using hj
theorem one_bytes (b : List UInt8) : (byteVs b).toArray.all (·.oneCell') = true := all_oneCell_toArray (byteVs_one b)

end Go.Proofs.YtchlcmgdfbabdaaGreatDoor.Pgs
