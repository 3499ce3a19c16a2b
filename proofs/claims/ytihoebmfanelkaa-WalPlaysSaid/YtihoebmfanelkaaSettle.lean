/- settle: which unsettled writes are kept. -/
import Derived.Test.YtihoebmfanelkaaAct
import Derived.Deep.WholeRow
import Derived.Laws.BitsAllLaws
namespace Go.Proofs.Ytihoebmfanelkaa
open Go.RowKit

theorem Only.setRow {S : List Nat} {a w : World} (h : Only S a w) {g : Nat} (hg : g ∈ S ∨ a.heap.size ≤ g) (cs : Array Value) : Only S a (w.setRow g cs) :=
  ⟨h.os, h.tape, h.output, by simpa [World.setRow] using h.size, fun i hi hn => (setRow_other w g i cs (by
    rintro rfl
    rcases hg with hg | hg
    · exact hn hg
    · omega)).trans (h.block i hi hn)⟩

/-- A whole value goes into its own block. -/
theorem wpList_store_whole {P : Program} {ops : Array Oper} {rest : List Oper} {op : Oper} {a : Act} {w : World} {Q : Exit → Act → World → Prop} (hgd : op.guard = none) (ty : TypeId) (x y : Operand) (ho : op.op = .store ty x y)
    (g : Nat) (c c' : Array Value) (hx : a.eval x = .pointer (some ⟨g, 0, none⟩)) (hy : a.eval y = .agg c') (hb : Blk w g ty c) (hi : (P.info? ty).map (·.size) = some c'.size) (hs : c.size = c'.size) (h1 : c'.all (·.oneCell') = true)
    (h : ∀ w', Blk w' g ty c' → Only [g] w w' → wpList P ops Q rest (a.put op.dst undef) w') : wpList P ops Q (op :: rest) a w := by
  refine wpList_plain hgd fun K hK => ?_
  have hrun := run_storeVar_row (P := P) w g ty ty c c' hb hi hs h1
  unfold Oper.wp execOp
  simp only [ho, hx, hy, Instr.storeAt, Instr.sureAddr, Sem.run_bind, Sem.run_pure, Result.andThen_ok, hrun]
  exact hK _ _ (h _ (setRow_heap w g c c' ty _ hb) ((Only.refl [g] w).setRow (.inl (by simp)) _))

theorem zero_write : ∃ Z : Array Value, (Try.prog.info? 107).map (fun i => (i.zero, i.size)) = some (some (.agg Z), 257) ∧ Z.size = 257 :=
  ⟨(((Try.prog.info? 107).bind (·.zero)).getD (.int .i64 0)).cells, by kernel_rfl, by kernel_rfl⟩

def midLast (n : Nat) (l : List (Nat × List UInt8)) (i : Nat) : List Value := (List.range n).map fun k => .int .i64 (if k ∈ (l.take i).map (·.1) then 0 else (lastOf l k : Int))

theorem keep_bit (keep k : Nat) (h : keep < 18446744073709551616) : (bits BinOp.and IntKind.u64 ((keep : Int) / 2 ^ (k % 64)) 1 == 1) = keepBit keep k := by
  have e1 : ((keep : Int) / 2 ^ (k % 64)) = ((keep / 2 ^ (k % 64) : Nat) : Int) := by simp
  have h2 : keep / 2 ^ (k % 64) < 18446744073709551616 := Nat.lt_of_le_of_lt (Nat.div_le_self _ _) h
  unfold keepBit
  rw [e1]
  generalize keep / 2 ^ (k % 64) = q at *
  have e2 := u64_and_nat q 1 h2 (by decide)
  rw [Nat.and_one_is_mod] at e2
  have e3 : ((1 : Nat) : Int) = 1 := rfl
  rw [e3] at e2
  rw [e2]
  have : q % 2 = 0 ∨ q % 2 = 1 := by omega
  rcases this with h | h <;> rw [h] <;> rfl

/-- A slice of bytes goes into a block from some place on. -/
theorem wpList_copy_blk {P : Program} {w : World} {ops : Array Oper} {rest : List Oper} {o : Oper} {a : Act} {Q : Exit → Act → World → Prop} (hgd : o.guard = none) (d s : Operand) (dT sT : TypeId)
    (ho : o.op = .call { callee := .builtin .copy, args := #[d, s], argTypes := #[dT, sT] }) (elem : TypeId) (hu : P.underlying dT = some (.slice elem)) (hsz : (P.info? elem).map (·.size) = some 1)
    (g off n dCap sCap : Nat) (ad : Addr) (hd : a.eval d = .slice (some ⟨g, off, none⟩) n dCap) (hs : a.eval s = .slice (some ad) n sCap)
    (cur : List Value) (t : TypeId) (hg : Blk w g t cur.toArray) (cs : List Value) (hn : cs.length = n)
    (hsrc : ∀ j v, cs[j]? = some v → w.cell? (ad.add j) = some v) (hfit : off + n ≤ cur.length) (h1 : ∀ v ∈ cs, v.oneCell' = true) (res : List Value) (hr : res = cur.take off ++ (cs ++ cur.drop (off + n)))
    (h : ∀ w', Blk w' g t res.toArray → Only [g] w w' → wpList P ops Q rest (a.put o.dst (goInt n)) w') : wpList P ops Q (o :: rest) a w := by
  subst hn
  subst hr
  refine wpList_copy_own hgd d s dT sT ho elem hu hsz g off _ dCap ad _ sCap hd hs cur.toArray t hg cs (by simp) hsrc (by simpa using hfit) h1 ?_
  refine h _ ?_ ((Only.refl [g] w).setRow (.inl (by simp)) _)
  unfold Blk
  simpa using setRow_heap w g cur.toArray (cur.take off ++ (cs ++ cur.drop (off + cs.length))).toArray t _ hg

theorem firmCells_set (f : List (List UInt8)) (hf : ∀ b ∈ f, b.length = 256) (k : Nat) (b : List UInt8) (hk : k < f.length) (hb : b.length = 256) :
    (firmCells (f.set k b)).flatten = (firmCells f).flatten.take (k * 256) ++ (byteVs b ++ (firmCells f).flatten.drop (k * 256 + 256)) := by
  have e : firmCells (f.set k b) = (firmCells f).set k (byteVs b) := by simp [firmCells, List.map_set]
  rw [e]
  exact flat_set 256 _ k _ (cells_len f hf) (by simpa [firmCells] using hk) (by rw [byteVs_length]; exact hb)
theorem firmCells_len (f : List (List UInt8)) (hf : ∀ b ∈ f, b.length = 256) : (firmCells f).flatten.length = f.length * 256 := by
  rw [flat_len 256 _ (cells_len f hf)]
  simp [firmCells]

theorem midLast_step (n : Nat) (l : List (Nat × List UInt8)) (k : Nat) (x : Nat × List UInt8) (hx : l[k]? = some x) : (midLast n l k).set x.1 (.int .i64 0) = midLast n l (k + 1) := by
  have ht : l.take (k + 1) = l.take k ++ [x] := by
    rw [List.take_add_one, hx]
    rfl
  apply List.ext_getElem?
  intro j
  rw [List.getElem?_set]
  simp only [midLast, ht, List.getElem?_map, List.length_map, List.length_range]
  by_cases hj : j < n
  · rw [List.getElem?_eq_getElem (by simpa using hj)]
    simp only [List.getElem_range, Option.map_some, List.map_append, List.map_cons, List.map_nil, List.mem_append, List.mem_singleton]
    by_cases e : x.1 = j
    · subst e
      simp [hj]
    · have e' : ¬ j = x.1 := fun h => e h.symm
      simp [e, e']
  · rw [List.getElem?_eq_none (by simpa using hj)]
    split
    · simp only [Option.map_none]
      rename_i e
      rw [if_neg (by omega)]
    · rfl
theorem midLast_end (n : Nat) (l : List (Nat × List UInt8)) : midLast n l l.length = lastCells n [] := by
  unfold midLast lastCells
  apply List.map_congr_left
  intro k _
  rw [List.take_of_length_le (Nat.le_refl _), lastOf_nil]
  rcases last_spec [] k l with ⟨h, _⟩ | ⟨_, _, h⟩
  · rw [h]; simp
  · have : k ∈ l.map (·.1) := List.mem_map.2 ⟨_, List.mem_of_getElem? h, rfl⟩
    rw [if_pos this]
    rfl
theorem midLast_at (n : Nat) (l : List (Nat × List UInt8)) (i k : Nat) (hk : k < n) : ∃ u, (midLast n l i)[k]? = some u := ⟨_, List.getElem?_eq_getElem (by simpa [midLast] using hk)⟩

theorem settle_take (keep : Nat) (l : List (Nat × List UInt8)) (f : List (List UInt8)) (k : Nat) (x : Nat × List UInt8) (hx : l[k]? = some x) :
    settle keep (l.take (k + 1)) f = if keepBit keep k then (settle keep (l.take k) f).set x.1 x.2 else settle keep (l.take k) f := by
  have hk : k < l.length := (List.getElem?_eq_some_iff.1 hx).1
  have ht : l.take (k + 1) = l.take k ++ [x] := by
    rw [List.take_add_one, hx]
    rfl
  rw [ht, settle_snoc, List.length_take, Nat.min_eq_left (by omega)]

set_option maxRecDepth 100000 in
theorem settle_any (w : World) (p : Nat) (F : List Nat) (s : St) (keep : Nat) (hkeep : keep < 18446744073709551616) (hd : Dev w p F s) :
    Calls Try.prog 46 #[.pointer (some ⟨p, 0, none⟩), .int .u64 (keep : Int)] w fun e w' => e = .returned (.tuple #[]) ∧ Same w w' p F (settledAll s keep) := by
  obtain ⟨Z, hz, hzs⟩ := zero_write
  obtain ⟨hz0, hz1⟩ := zero_of_info hz
  clear hz
  obtain ⟨gs, gl, v, hb, hf, hl, hown, ⟨n1, n2, n3, n4, n5, n6⟩, hF, fine⟩ := id hd
  obtain ⟨firm, late, fuse, dead⟩ := s
  simp only at hb hf hl hown fine
  have c1 := hb.cell 1
  simp only [List.getElem?_toArray, List.getElem?_cons_zero, List.getElem?_cons_succ] at c1
  obtain ⟨n, hn⟩ : ∃ n, n = late.length := ⟨_, rfl⟩
  rw [← hn] at hown
  obtain ⟨A, c, rfl, hmax⟩ : ∃ A c, v = .slice A n c ∧ n ≤ 9223372036854775807 := by
    rcases hown.2 with ⟨rfl, h0⟩ | ⟨g, cap, cur, rfl, _, _, h1, h2, _⟩
    · exact ⟨_, _, by rw [h0], by omega⟩
    · exact ⟨_, _, rfl, by simp only [maxLen] at h2; omega⟩
  replace hn := Lib.hid hn
  go_enter Try.func46, Try.ntmps46
  go_wp2
  go_loopw [11] (fun i wr => ∃ k : Nat, k ≤ n ∧ i = .int .i64 k ∧ Blk wr gs 87 (firmCells (settle keep (late.take k) firm)).flatten.toArray ∧ Blk wr gl 3 (midLast firm.length late k).toArray ∧ Only [gs, gl] w wr) (fun i _ => n - (intOf i).toNat)
  case atStart => exact ⟨0, Nat.zero_le _, rfl, by simpa [settle_nil] using hf, by simpa [midLast, lastCells] using hl, Only.refl _ _⟩
  case round =>
    obtain ⟨k, hk, rfl, hf', hl', hkept⟩ := hrel
    by_cases hlt : k < n
    · have hx : late[k]? = some (late[k]'(by rw [← hn.out]; exact hlt)) := List.getElem?_eq_getElem _
      have hown' := ownsRow_kept' hown hkept (fun g hg => by simp; exact ⟨by rintro rfl; exact n5 hg, by rintro rfl; exact n6 hg⟩)
      obtain ⟨g, c', hA, _, hrange⟩ := late_cell' hn.out hown' (fun x hx => (fine.late x hx).2) hx
      injection hA with hA _ hc'
      subst hA
      subst hc'
      generalize late[k]'(by rw [← hn.out]; exact hlt) = x at *
      have hxl := (fine.late x (List.mem_of_getElem? hx)).2
      have hcl : (Value.int .i64 (x.1 : Int) :: byteVs x.2).length = 257 := by rw [List.length_cons, byteVs_length, hxl]
      have hone : (Value.int .i64 (x.1 : Int) :: byteVs x.2).toArray.all (·.oneCell') = true := all_oneCell_toArray (fun v hv => by
        rcases List.mem_cons.1 hv with rfl | hv
        · rfl
        · exact byteVs_one _ v hv)
      obtain ⟨cs, hcs⟩ : ∃ cs, cs = Value.int .i64 (x.1 : Int) :: byteVs x.2 := ⟨_, rfl⟩
      rw [← hcs] at hrange hcl hone
      replace hcs := Lib.hid hcs
      have hbit := keep_bit keep k hkeep
      have hfx : x.1 < firm.length := (fine.late x (List.mem_of_getElem? hx)).1
      have hgx0 : gs ≠ wr.heap.size := Nat.ne_of_lt hf'.lt
      have hlx0 : gl ≠ wr.heap.size := Nat.ne_of_lt hl'.lt
      cases hkb : keepBit keep k with
      | true =>
        rw [hkb] at hbit
        go_wp2_with (first
          | (refine wpList_load_mid rfl 107 (.tmp 14) rfl g (k * 257) rfl cs _ hrange Try.underlying107 rfl (by rw [hcl]; exact hz1) ?_)
          | (refine wpList_store_whole rfl 107 (.tmp 5) (.tmp 15) rfl wr.heap.size Z cs.toArray rfl rfl (Blk.new wr _ _) (by simpa [hcl] using hz1) (by simpa [hcl] using hzs) hone ?_; intro w1 hw1 k1))
        have k2 : Only [gs, gl] w w1 := (hkept.alloc _).then k1 (by
          intro i hi
          simp at hi
          subst hi
          exact .inr hkept.size)
        have pb := hb.kept k2 (by simp; exact ⟨n1, n2⟩)
        have d0 := pb.cell 0
        have d2 := pb.cell 2
        simp only [List.getElem?_toArray, List.getElem?_cons_zero, List.getElem?_cons_succ] at d0 d2
        have hcs' := hcs.out
        rw [hcs'] at hw1
        have q0 := hw1.cell 0
        simp only [List.getElem?_toArray, List.getElem?_cons_zero] at q0
        have hg1 : Blk w1 gs 87 (firmCells (settle keep (late.take k) firm)).flatten.toArray := (hf'.alloc _).kept k1 (by simp; exact Nat.ne_of_lt hf'.lt)
        have hl1 : Blk w1 gl 3 (midLast firm.length late k).toArray := (hl'.alloc _).kept k1 (by simp; exact Nat.ne_of_lt hl'.lt)
        have hstep := settle_take keep late firm k x hx
        rw [hkb] at hstep
        clear hrange hf' hl' hkept hown' k1
        simp only [if_true] at hstep
        go_still_tail 10, (by kernel_rfl)
        change wpList _ _ _ _ _ w1.drew
        have hgx : gs ≠ wr.heap.size := hgx0
        have hlx : gl ≠ wr.heap.size := hlx0
        have kd0 : Only [] w1 w1.drew := (Only.refl [] w1).drew
        have hg1' := hg1.kept kd0 (by simp)
        have hl1' := hl1.kept kd0 (by simp)
        have hw1' := hw1.kept kd0 (by simp)
        have k2' := k2.drew
        generalize w1.drew = wc at *
        have hset : ∀ b ∈ settle keep (late.take k) firm, b.length = 256 := settle_fine keep firm fine.firm _ (fun y hy => fine.late y (List.mem_of_mem_take hy))
        refine wpList_copy_blk rfl (.tmp 29) (.tmp 31) 85 85 rfl 5 Try.underlying85 (by kernel_rfl) gs (x.1 * 256) 256 256 256 ⟨wr.heap.size, 1, none⟩ rfl rfl (firmCells (settle keep (late.take k) firm)).flatten 87 hg1' (byteVs x.2) (by rw [byteVs_length, hxl]) ?src ?fit (byteVs_one _) (firmCells (settle keep (late.take (k + 1)) firm)).flatten ?res ?_
        case src =>
          intro j v hj
          rw [addr_add, hw1'.cell]
          simp only [List.getElem?_toArray]
          rw [Nat.add_comm, List.getElem?_cons_succ]
          exact hj
        case fit =>
          rw [firmCells_len _ hset, settle_length]
          omega
        case res =>
          rw [hstep]
          exact firmCells_set _ hset x.1 x.2 (by rw [settle_length]; exact hfx) hxl
        intro w2 hg2 k3
        have hl2 := hl1'.kept k3 (by simp; exact fun e => n3 e.symm)
        have hw2 := hw1'.kept k3 (by simp; exact fun e => hgx e.symm)
        have k4 : Only [gs, gl] w w2 := k2'.then k3 (by simp)
        clear hg1 hl1 hw1 hg1' hl1' hw1' k2 k2' k3 kd0 pb d0 d2 q0
        go_wp2
        have pbw2 := hb.kept k4 (by simp; exact ⟨n1, n2⟩)
        have e2 := pbw2.cell 2
        simp only [List.getElem?_toArray, List.getElem?_cons_zero, List.getElem?_cons_succ] at e2
        have e0 := (hw2).cell 0
        simp only [List.getElem?_toArray, List.getElem?_cons_zero] at e0
        go_still_tail 7, (by kernel_rfl)
        change wpList _ _ _ _ _ w2.drew
        have kd : Only [] w2 w2.drew := (Only.refl [] w2).drew
        have hgd := (hg2).kept kd (by simp)
        have hld := (hl2).kept kd (by simp)
        have kall := (k4).drew
        generalize w2.drew = wd at *
        have e3 : ∃ u, wd.cell? ⟨gl, x.1, none⟩ = some u := by
          obtain ⟨u, hu⟩ := midLast_at firm.length late k x.1 hfx
          exact ⟨u, by rw [hld.cell]; simpa using hu⟩
        obtain ⟨u, e3⟩ := e3
        have e4 := hld.free x.1
        have hfin1 := hgd.kept (Only.set wd [gl] (p := gl) (i := x.1) (by simp) (.int .i64 0)) (by simpa using n3)
        have hfin2 := hld.set x.1 (.int .i64 0)
        simp only [List.setIfInBounds_toArray, midLast_step firm.length late k x hx] at hfin2
        have hfin3 : Only [gs, gl] w (wd.setCell ⟨gl, x.1, none⟩ (.int .i64 0)) := kall.setCell (.inl (by simp)) _
        replace hfin1 := Lib.hid hfin1
        replace hfin2 := Lib.hid hfin2
        replace hfin3 := Lib.hid hfin3
        clear hgd hld kall kd e0 e2 pbw2 hstep
        go_wp2
        go_round
        case rel => exact ⟨k + 1, by omega, by go_num, hfin1.out, hfin2.out, hfin3.out⟩
        case measure => simp [intOf]; omega
      | false =>
        rw [hkb] at hbit
        go_wp2_with (first
          | (refine wpList_load_mid rfl 107 (.tmp 14) rfl g (k * 257) rfl cs _ hrange Try.underlying107 rfl (by rw [hcl]; exact hz1) ?_)
          | (refine wpList_store_whole rfl 107 (.tmp 5) (.tmp 15) rfl wr.heap.size Z cs.toArray rfl rfl (Blk.new wr _ _) (by simpa [hcl] using hz1) (by simpa [hcl] using hzs) hone ?_; intro w1 hw1 k1))
        have k2 : Only [gs, gl] w w1 := (hkept.alloc _).then k1 (by
          intro i hi
          simp at hi
          subst hi
          exact .inr hkept.size)
        have pb := hb.kept k2 (by simp; exact ⟨n1, n2⟩)
        have d0 := pb.cell 0
        have d2 := pb.cell 2
        simp only [List.getElem?_toArray, List.getElem?_cons_zero, List.getElem?_cons_succ] at d0 d2
        have hcs' := hcs.out
        rw [hcs'] at hw1
        have q0 := hw1.cell 0
        simp only [List.getElem?_toArray, List.getElem?_cons_zero] at q0
        have hg1 : Blk w1 gs 87 (firmCells (settle keep (late.take k) firm)).flatten.toArray := (hf'.alloc _).kept k1 (by simp; exact Nat.ne_of_lt hf'.lt)
        have hl1 : Blk w1 gl 3 (midLast firm.length late k).toArray := (hl'.alloc _).kept k1 (by simp; exact Nat.ne_of_lt hl'.lt)
        have hstep := settle_take keep late firm k x hx
        rw [hkb] at hstep
        clear hrange hf' hl' hkept hown' k1
        simp only [Bool.false_eq_true, if_false] at hstep
        rw [← hstep] at hg1
        clear pb d0 d2 q0
        have pbw1 := hb.kept k2 (by simp; exact ⟨n1, n2⟩)
        have e2 := pbw1.cell 2
        simp only [List.getElem?_toArray, List.getElem?_cons_zero, List.getElem?_cons_succ] at e2
        have e0 := (hw1).cell 0
        simp only [List.getElem?_toArray, List.getElem?_cons_zero] at e0
        go_still_tail 7, (by kernel_rfl)
        change wpList _ _ _ _ _ w1.drew
        have kd : Only [] w1 w1.drew := (Only.refl [] w1).drew
        have hgd := (hg1).kept kd (by simp)
        have hld := (hl1).kept kd (by simp)
        have kall := (k2).drew
        generalize w1.drew = wd at *
        have e3 : ∃ u, wd.cell? ⟨gl, x.1, none⟩ = some u := by
          obtain ⟨u, hu⟩ := midLast_at firm.length late k x.1 hfx
          exact ⟨u, by rw [hld.cell]; simpa using hu⟩
        obtain ⟨u, e3⟩ := e3
        have e4 := hld.free x.1
        have hfin1 := hgd.kept (Only.set wd [gl] (p := gl) (i := x.1) (by simp) (.int .i64 0)) (by simpa using n3)
        have hfin2 := hld.set x.1 (.int .i64 0)
        simp only [List.setIfInBounds_toArray, midLast_step firm.length late k x hx] at hfin2
        have hfin3 : Only [gs, gl] w (wd.setCell ⟨gl, x.1, none⟩ (.int .i64 0)) := kall.setCell (.inl (by simp)) _
        replace hfin1 := Lib.hid hfin1
        replace hfin2 := Lib.hid hfin2
        replace hfin3 := Lib.hid hfin3
        clear hgd hld kall kd e0 e2 pbw1 hstep
        go_wp2
        go_round
        case rel => exact ⟨k + 1, by omega, by go_num, hfin1.out, hfin2.out, hfin3.out⟩
        case measure => simp [intOf]; omega
    · have hkn : k = late.length := by rw [← hn.out]; omega
      subst hkn
      rw [List.take_of_length_le (Nat.le_refl _)] at hf'
      rw [midLast_end] at hl'
      have pb := hb.kept hkept (by simp; exact ⟨n1, n2⟩)
      have d1 := pb.cell 1
      have d2 := pb.free 1
      simp only [List.getElem?_toArray, List.getElem?_cons_zero, List.getElem?_cons_succ] at d1
      have kp : Only [p] wr (wr.setCell ⟨p, 1, none⟩ (.slice none 0 0)) := Only.set wr [p] (by simp) _
      have hall : Only F w (wr.setCell ⟨p, 1, none⟩ (.slice none 0 0)) := by
        have h1 : Only (p :: [gs, gl]) w wr := hkept.more (fun i hi => .inl (by simp at hi; rcases hi with rfl | rfl <;> simp))
        have h2 := h1.then kp (by simp)
        refine h2.more (fun i hi => .inl ?_)
        simp at hi
        rcases hi with rfl | rfl | rfl
        · exact hF.1
        · exact hF.2.1
        · exact hF.2.2.1
      have hend : Same w (wr.setCell ⟨p, 1, none⟩ (.slice none 0 0)) p F (settledAll ⟨firm, late, fuse, dead⟩ keep) := by
        refine ⟨⟨gs, gl, .slice none 0 0, ?_, ?_, ?_, World.ownsRow_nil _ 0 _ 257, ⟨n1, n2, n3, by simp [Value.ownBlock], by simp [Value.ownBlock], by simp [Value.ownBlock]⟩, ⟨hF.1, hF.2.1, hF.2.2.1, by simp [Value.ownBlock]⟩, fine.settled keep⟩, hall⟩
        · have := pb.set 1 (.slice none 0 0)
          simpa [settledAll, settle_length] using this
        · exact hf'.kept kp (by simp; exact fun e => n1 e.symm)
        · have := hl'.kept kp (by simp; exact fun e => n2 e.symm)
          simpa [settledAll, settle_length] using this
      replace hend := Lib.hid hend
      clear pb hf' hl' hkept hd hb hf hl hall kp
      go_wp2
      go_end0
      exact ⟨rfl, hend.out⟩

end Go.Proofs.Ytihoebmfanelkaa
