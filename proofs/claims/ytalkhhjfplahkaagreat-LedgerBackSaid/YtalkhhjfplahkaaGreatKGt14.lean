/- Is a state greater than is looked at? -/
import Derived.Test.YtalkhhjfplahkaaGreatKRows14
import Derived.Test.YtalkhhjfplahkaaGreatKB
namespace Go.Proofs.YtalkhhjfplahkaaGreat
open Go.RowKit
set_option linter.unusedVariables false

def opZ : Array Value := #[.int .i64 0, .int .i64 0, .int .u32 0, .int .u32 0, .int .u32 0, .int .u32 0, .int .u32 0, .int .u32 0, .int .u32 0, .int .u32 0, .string ⟨#[]⟩, .string ⟨#[]⟩, .string ⟨#[]⟩]
def opPA (x : Pk) : Array Value := #[.int .i64 x.code, .int .i64 x.err, .int .u32 x.file, .int .u32 x.epoch, .int .u32 x.off, .int .u32 x.len, .int .u32 x.size, .int .u32 x.mode, .int .u32 x.deny, .int .u32 x.handle, .string x.path, .string x.other, .string x.data]
theorem size_opc : (Tryz.prog.info? 52).map (·.size) = some 13 := by kernel_rfl
theorem opPA_one (x : Pk) : ∀ v ∈ (opPA x).toList, v.oneCell' = true := by
  intro v hv
  simp only [opPA, List.mem_cons, List.not_mem_nil, or_false] at hv
  rcases hv with rfl | rfl | rfl | rfl | rfl | rfl | rfl | rfl | rfl | rfl | rfl | rfl | rfl <;> rfl
theorem op_cells {w : World} {g : Nat} {x : Pk} (h : Blk w g 52 (opPA x)) : w.cell? ⟨g, 10, none⟩ = some (.string x.path) ∧ w.cell? ⟨g, 11, none⟩ = some (.string x.other) ∧ w.cell? ⟨g, 12, none⟩ = some (.string x.data) := ⟨h.cell 10, h.cell 11, h.cell 12⟩
section
variable {ops : Array Oper} {rest : List Oper} {o : Oper} {a : Act} {w : World} {Q : Exit → Act → World → Prop}
theorem wpList_store_opc (p : Pk) (hw : Region.wanted o (yielded ops a.tmps) = true) (x y : Operand) (ho : o.op = .store 52 x y) (g : Nat) (hx : a.eval x = .pointer (some ⟨g, 0, none⟩)) (hy : a.eval y = .agg (opPA p)) (hb : Blk w g 52 opZ)
    (h : ∀ w', Blk w' g 52 (opPA p) → Only [g] w w' → wpList Tryz.prog ops Q rest (a.put o.dst undef) w') : wpList Tryz.prog ops Q (o :: rest) a w :=
  wpList_store_blk hw 52 x y ho g _ _ hx hy hb size_opc rfl (by simp [Value.oneCell', opPA]) h
end
/-- A state of any size lies in memory. -/
structure RawM (w : World) (s : Sta) (p : Sp) : Prop where
  tree : Els ndE 5 w p.tA s.tree
  tc : s.tree.length ≤ p.tc
  opens : Els opE 5 w p.oA s.opens
  oc : s.opens.length ≤ p.oc
  lks : s.locks = p.lv.map (·.L)
  locks : Els lvE 7 w p.lA p.lv
  lvs : ∀ x ∈ p.lv, LvOk w x
  lc : s.locks.length ≤ p.lc
  works : Els wkE 8 w p.wA s.works
  wc : s.works.length ≤ p.wc
  seats : Els seaE 21 w p.sA s.seats
  sc : s.seats.length ≤ p.sc
  fit : s.Fit
theorem RawM.kept {w w' : World} {s : Sta} {p : Sp} (h : RawM w s p) (k : Only [] w w') : RawM w' s p :=
  { h with
    tree := h.tree.kept k (by simp)
    opens := h.opens.kept k (by simp)
    locks := h.locks.kept k (by simp)
    lvs := fun x hx => ⟨(h.lvs x hx).els.kept k (by simp), (h.lvs x hx).cap⟩
    works := h.works.kept k (by simp)
    seats := h.seats.kept k (by simp) }
theorem RawM.small {w : World} {s : Sta} {p : Sp} (h : RawM w s p) (q0 : ¬ 60 < s.tree.length) (q1 : ¬ 30 < s.opens.length) (q2 : ¬ 60 < s.locks.length) (q3 : ¬ 60 < s.works.length) (q4 : ¬ 20 < s.seats.length) (a : ∀ x ∈ p.lv, x.L.hs.length ≤ 20) (b : ∀ x ∈ s.works, x.data.length ≤ 400) : StM w s p :=
  ⟨h.tree, h.tc, by omega, h.opens, h.oc, by omega, h.lks, h.locks, h.lvs, h.lc, by omega, fun x hx => by have := a x hx; omega, h.works, h.wc, by omega, fun x hx => by have := b x hx; omega, h.seats, h.sc, by omega, h.fit⟩
/-- What Great answers. -/
def GrtAns (w : World) (s : Sta) (p : Sp) (e : Ending) : Prop := e = .returned (.bool true) ∨ (e = .returned (.bool false) ∧ StM w s p)

set_option maxRecDepth 100000 in
set_option maxHeartbeats 16000000 in
theorem great_any (w : World) (s : Sta) (p : Sp) (h : RawM w s p) : Calls Tryz.prog 5 #[staV s p] w fun e w' => GrtAns w s p e ∧ Only [] w w' := by
  have k0 : Only [] w (w.alloc (.cells #[.int .u32 s.boot, .int .u32 s.next, .slice p.tA s.tree.length p.tc, .slice p.oA s.opens.length p.oc, .slice p.lA s.locks.length p.lc, .slice p.wA s.works.length p.wc, .slice p.sA s.seats.length p.sc] 29)) := (Only.refl [] w).alloc _
  have bx := Sx.new w s p
  have hlen : s.locks.length = p.lv.length := by rw [h.lks, List.length_map]
  have htb := h.tree
  have hlb := h.locks
  have hwb := h.works
  have hsb := h.seats
  have hyes : GrtAns w s p (.returned (.bool true)) := .inl rfl
  have hno : ¬ 60 < s.tree.length → ¬ 30 < s.opens.length → ¬ 60 < s.locks.length → ¬ 60 < s.works.length → ¬ 20 < s.seats.length → (∀ x ∈ p.lv, x.L.hs.length ≤ 20) → (∀ x ∈ s.works, x.data.length ≤ 400) → GrtAns w s p (.returned (.bool false)) := fun q0 q1 q2 q3 q4 a b => .inr ⟨rfl, h.small q0 q1 q2 q3 q4 a b⟩
  clear h
  generalize GrtAns w s p = GA at *
  replace hyes := Lib.hid hyes
  replace hno := Lib.hid hno
  unfold staV
  obtain ⟨sb, sn, t, so, sl, sw, ss⟩ := s
  obtain ⟨tA, tc, oA, oc, lA, lc, lv, wA, wc, sA, sc⟩ := p
  simp only at k0 bx hlen htb hlb hwb hsb hno ⊢
  have KB := fun W kW => bx.at (S := []) (w' := W) kW (by simp)
  simp only at KB
  replace KB := Lib.hid KB
  replace hlen := Lib.hid hlen
  clear bx
  obtain ⟨c0, c1, c2, c3, c4, c5, c6⟩ := KB.out _ (Only.refl _ _)
  by_cases q0 : 60 < t.length
  · go_enter Tryz.func5, Tryz.ntmps5
    go_wp2
    go_ret
    exact ⟨hyes.out, k0⟩
  by_cases q1 : 30 < so.length
  · go_enter Tryz.func5, Tryz.ntmps5
    go_wp2
    go_ret
    exact ⟨hyes.out, k0⟩
  by_cases q2 : 60 < sl.length
  · go_enter Tryz.func5, Tryz.ntmps5
    go_wp2
    go_ret
    exact ⟨hyes.out, k0⟩
  by_cases q3 : 60 < sw.length
  · go_enter Tryz.func5, Tryz.ntmps5
    go_wp2
    go_ret
    exact ⟨hyes.out, k0⟩
  by_cases q4 : 20 < ss.length
  · go_enter Tryz.func5, Tryz.ntmps5
    go_wp2
    go_ret
    exact ⟨hyes.out, k0⟩
  go_enter Tryz.func5, Tryz.ntmps5
  go_wp2_with fail
  have hno2 := Lib.hid (hno.out q0 q1 q2 q3 q4)
  clear c0 c1 c2 c3 c4 c5 c6 hno
  have z1 : t.length ≤ 60 := by omega
  have z3 : sl.length ≤ 60 := by omega
  have z4 : sw.length ≤ 60 := by omega
  have z5 : ss.length ≤ 20 := by omega
  clear q0 q1 q2 q3 q4
  go_loopw [3] (fun i wr => ∃ n : Nat, n ≤ t.length ∧ i = .int .i64 n ∧ Only [] (w.alloc (.cells #[.int .u32 sb, .int .u32 sn, .slice tA t.length tc, .slice oA so.length oc, .slice lA sl.length lc, .slice wA sw.length wc, .slice sA ss.length sc] 29)) wr) (fun i _ => t.length - (intOf i).toNat)
  case atStart => exact ⟨0, Nat.zero_le _, rfl, Only.refl _ _⟩
  case round =>
  obtain ⟨n, hn, rfl, hm⟩ := hrel
  have hkw := k0.trans hm
  obtain ⟨c0, c1, c2, c3, c4, c5, c6⟩ := KB.out _ hm
  by_cases hlt : n < t.length
  · obtain ⟨g, o, rfl, hg, hat⟩ := htb.get hlt
    obtain ⟨e0, e1, e2, e3, e4⟩ := nds_at (hat.kept hkw (by simp)) hlt
    generalize t[n] = x at *
    obtain ⟨x0, x1, x2, x3, x4⟩ := x
    simp only at e0 e1 e2 e3 e4
    generalize strOf x2 = sx at *
    by_cases q : 200 < sx.size
    · go_wp2
      go_ret
      exact ⟨hyes.out, hkw⟩
    · go_wp2_with fail
      go_roundw
      case rel => exact ⟨n + 1, by omega, by go_num, hm⟩
      case measure => simp [intOf]; omega
  have hk1 := hm
  go_wp2_with fail
  clear c0 c1 c2 c3 c4 c5 c6 hm hlt hn hkw
  go_loopw [4] (fun i wr => ∃ n : Nat, n ≤ sl.length ∧ i = .int .i64 n ∧ Hid (∀ x ∈ lv.take n, x.L.hs.length ≤ 20) ∧ Only [] (w.alloc (.cells #[.int .u32 sb, .int .u32 sn, .slice tA t.length tc, .slice oA so.length oc, .slice lA sl.length lc, .slice wA sw.length wc, .slice sA ss.length sc] 29)) wr) (fun i _ => sl.length - (intOf i).toNat)
  case atStart => exact ⟨0, Nat.zero_le _, rfl, Lib.hid (by simp), hk1⟩
  case round =>
  obtain ⟨n, hn, rfl, hq, hm⟩ := hrel
  have hkw := k0.trans hm
  obtain ⟨c0, c1, c2, c3, c4, c5, c6⟩ := KB.out _ hm
  by_cases hlt : n < sl.length
  · have hlv : n < lv.length := by have := hlen.out; omega
    obtain ⟨g, o, rfl, hg, hat⟩ := hlb.get hlv
    obtain ⟨e0, e1, e2, e3, e4, e5, e6⟩ := lvs_at (hat.kept hkw (by simp)) hlv
    have hx : lv[n]? = some lv[n] := List.getElem?_eq_getElem hlv
    have hqn := fun (h : lv[n].L.hs.length ≤ 20) => all_take hq.out hx h
    clear hx
    generalize lv[n] = x at *
    obtain ⟨⟨x0, x1, x2, x3, x4, x5, xl⟩, xA, xd⟩ := x
    simp only at e0 e1 e2 e3 e4 e5 e6 hqn
    replace hqn := Lib.hid hqn
    by_cases q : 20 < xl.length
    · go_wp2
      go_ret
      exact ⟨hyes.out, hkw⟩
    · have hq2 := Lib.hid (hqn.out (by omega))
      clear hqn hq
      go_wp2_with fail
      go_roundw
      case rel => exact ⟨n + 1, by omega, by go_num, hq2, hm⟩
      case measure => simp [intOf]; omega
  have hLL : Hid (∀ x ∈ lv, x.L.hs.length ≤ 20) := by
    have := hq.out
    rwa [List.take_of_length_le (by have := hlen.out; omega)] at this
  clear hq
  have hk2 := hm
  go_wp2_with fail
  clear c0 c1 c2 c3 c4 c5 c6 hm hlt hn hkw
  go_loopw [5] (fun i wr => ∃ n : Nat, n ≤ sw.length ∧ i = .int .i64 n ∧ Hid (∀ x ∈ sw.take n, x.data.length ≤ 400) ∧ Only [] (w.alloc (.cells #[.int .u32 sb, .int .u32 sn, .slice tA t.length tc, .slice oA so.length oc, .slice lA sl.length lc, .slice wA sw.length wc, .slice sA ss.length sc] 29)) wr) (fun i _ => sw.length - (intOf i).toNat)
  case atStart => exact ⟨0, Nat.zero_le _, rfl, Lib.hid (by simp), hk2⟩
  case round =>
  obtain ⟨n, hn, rfl, hq, hm⟩ := hrel
  have hkw := k0.trans hm
  obtain ⟨c0, c1, c2, c3, c4, c5, c6⟩ := KB.out _ hm
  by_cases hlt : n < sw.length
  · obtain ⟨g, o, rfl, hg, hat⟩ := hwb.get hlt
    obtain ⟨e0, e1, e2, e3, e4, e5, e6, e7⟩ := wks_at (hat.kept hkw (by simp)) hlt
    have hx : sw[n]? = some sw[n] := List.getElem?_eq_getElem hlt
    have hqn := fun (h : sw[n].data.length ≤ 400) => all_take hq.out hx h
    clear hx
    generalize sw[n] = x at *
    obtain ⟨x0, x1, x2, x3, x4, x5, x6, x7⟩ := x
    simp only at e0 e1 e2 e3 e4 e5 e6 e7 hqn
    replace hqn := Lib.hid hqn
    generalize hsx : strOf x7 = sx at *
    have hsl : Hid (sx.size = x7.length) := by rw [← hsx]; exact strOf_size _
    replace hsx := Lib.hid hsx
    by_cases q : 400 < sx.size
    · go_wp2
      go_ret
      exact ⟨hyes.out, hkw⟩
    · have hq2 := Lib.hid (hqn.out (by have := hsl.out; omega))
      clear hqn hq
      go_wp2_with fail
      go_roundw
      case rel => exact ⟨n + 1, by omega, by go_num, hq2, hm⟩
      case measure => simp [intOf]; omega
  have hWW : Hid (∀ x ∈ sw, x.data.length ≤ 400) := by
    have := hq.out
    rwa [List.take_of_length_le (by omega)] at this
  clear hq
  have hno3 := Lib.hid (hno2.out hLL.out hWW.out)
  clear hno2 hLL hWW
  have hk3 := hm
  go_wp2_with fail
  clear c0 c1 c2 c3 c4 c5 c6 hm hlt hn hkw
  go_loopw [6] (fun i wr => ∃ n : Nat, n ≤ ss.length ∧ i = .int .i64 n ∧ Only [] (w.alloc (.cells #[.int .u32 sb, .int .u32 sn, .slice tA t.length tc, .slice oA so.length oc, .slice lA sl.length lc, .slice wA sw.length wc, .slice sA ss.length sc] 29)) wr) (fun i _ => ss.length - (intOf i).toNat)
  case atStart => exact ⟨0, Nat.zero_le _, rfl, hk3⟩
  case round =>
  obtain ⟨n, hn, rfl, hm⟩ := hrel
  have hkw := k0.trans hm
  obtain ⟨c0, c1, c2, c3, c4, c5, c6⟩ := KB.out _ hm
  by_cases hlt : n < ss.length
  · obtain ⟨g, o, rfl, hg, hat⟩ := hsb.get hlt
    have hr := ElsAt.range (hat.kept hkw (by simp)) hlt
    generalize ss[n] = x at *
    obtain ⟨x0, xp⟩ := x
    have hr2 : wr.rangeAt g (o + n * 21 + 1 + 7) (opPA xp).toList := fun j v hj => by
      have := hr (8 + j) v (by
        have e : (seaE ⟨x0, xp⟩)[8 + j]? = (opPA xp).toList[j]? := by
          have : (seaE ⟨x0, xp⟩).drop 8 = (opPA xp).toList := rfl
          rw [← this, List.getElem?_drop]
        rw [e]; exact hj)
      rw [show o + n * 21 + 1 + 7 + j = o + n * 21 + (8 + j) by omega]
      exact this
    clear hr hat
    have bn : Blk (wr.alloc (.cells opZ 52)) wr.heap.size 52 opZ := Blk.new wr _ _
    replace bn := Lib.hid bn
    replace hr2 := Lib.hid hr2
    by_cases q1 : 400 < xp.path.size
    · go_wp2_with (first | refine wpList_load_at (by rfl) 52 _ rfl g (o + n * 21 + 1 + 7) rfl (opPA xp).toList _ hr2.out Tryz.underlying52 rfl size_opc ?_ | (refine wpList_store_opc xp rfl _ _ rfl wr.heap.size rfl rfl bn.out ?_; intro wa hbx kbx; obtain ⟨s1, s2, s3⟩ := op_cells hbx; have hma := (hm.alloc _).beyond kbx hm.size; replace hbx := Lib.hid hbx; clear kbx))
      go_ret
      exact ⟨hyes.out, k0.trans hma⟩
    by_cases q2 : 400 < xp.other.size
    · go_wp2_with (first | refine wpList_load_at (by rfl) 52 _ rfl g (o + n * 21 + 1 + 7) rfl (opPA xp).toList _ hr2.out Tryz.underlying52 rfl size_opc ?_ | (refine wpList_store_opc xp rfl _ _ rfl wr.heap.size rfl rfl bn.out ?_; intro wa hbx kbx; obtain ⟨s1, s2, s3⟩ := op_cells hbx; have hma := (hm.alloc _).beyond kbx hm.size; replace hbx := Lib.hid hbx; clear kbx))
      go_ret
      exact ⟨hyes.out, k0.trans hma⟩
    by_cases q3 : 400 < xp.data.size
    · go_wp2_with (first | refine wpList_load_at (by rfl) 52 _ rfl g (o + n * 21 + 1 + 7) rfl (opPA xp).toList _ hr2.out Tryz.underlying52 rfl size_opc ?_ | (refine wpList_store_opc xp rfl _ _ rfl wr.heap.size rfl rfl bn.out ?_; intro wa hbx kbx; obtain ⟨s1, s2, s3⟩ := op_cells hbx; have hma := (hm.alloc _).beyond kbx hm.size; replace hbx := Lib.hid hbx; clear kbx))
      go_ret
      exact ⟨hyes.out, k0.trans hma⟩
    go_wp2_with (first | refine wpList_load_at (by rfl) 52 _ rfl g (o + n * 21 + 1 + 7) rfl (opPA xp).toList _ hr2.out Tryz.underlying52 rfl size_opc ?_ | (refine wpList_store_opc xp rfl _ _ rfl wr.heap.size rfl rfl bn.out ?_; intro wa hbx kbx; obtain ⟨s1, s2, s3⟩ := op_cells hbx; have hma := (hm.alloc _).beyond kbx hm.size; replace hbx := Lib.hid hbx; clear kbx))
    go_roundw
    case rel => exact ⟨n + 1, by omega, by go_num, hma⟩
    case measure => simp [intOf]; omega
  go_wp2
  go_ret
  exact ⟨hno3.out, hkw⟩

end Go.Proofs.YtalkhhjfplahkaaGreat
