/- The rows of a state. -/
import Derived.Test.YtalkhhjfplahkaaGreatKLrow14
namespace Go.Proofs.YtalkhhjfplahkaaGreat
open Go.RowKit
set_option linter.unusedVariables false

theorem map_take {α β : Type} {enc : α → β} {l : List α} {n : Nat} {x : α} (h : l[n]? = some x) : (l.take (n + 1)).map enc = (l.take n).map enc ++ [enc x] := by
  rw [List.take_add_one, h]
  simp
theorem Mine.lit {α : Type} {enc : α → List Value} {k : Nat} {e : TypeId} {w w1 : World} {l : List α} {g : Nat} (hk : ∀ x, (enc x).length = k) (hg : w.heap.size ≤ g) (hb : Blk w1 g e (encs enc l).toArray) (hm : l.length ≤ maxLen) (ho : Only [] w w1) :
    Mine enc k e w w1 (.slice (some ⟨g, 0, none⟩) l.length l.length) l :=
  ⟨⟨encs_length hk l, .inr ⟨g, l.length, (encs enc l).toArray, rfl, Nat.zero_le _, hb, Nat.le_refl _, hm, by rw [List.size_toArray]; exact encs_length hk l, by rw [List.take_of_length_le (by rw [← encs_length hk l]; simp)]⟩⟩, fun j hj => by simp [Value.ownBlock] at hj; omega, ho⟩
def lvR (x : Lv) : Ch := lockR x.L
/-- What Rows answers. -/
def RowsAns (s : Sta) (w w' : World) (e : Ending) : Prop :=
  (RightS s ∧ ∃ v, e = .returned (.tuple #[v, .int .i64 0]) ∧ Mine chE 3 48 w w' v (rowsL s)) ∨ (¬ RightS s ∧ e = .returned (.tuple #[.slice none 0 0, .int .i64 1]) ∧ Only [] w w')

set_option maxRecDepth 100000 in
set_option maxHeartbeats 32000000 in
theorem rows_state (w : World) (s : Sta) (p : Sp) (h : StM w s p) : Calls Tryz.prog 6 #[staV s p] w fun e w' => RowsAns s w w' e := by
  have k0 : Only [] w (w.alloc (.cells #[.int .u32 s.boot, .int .u32 s.next, .slice p.tA s.tree.length p.tc, .slice p.oA s.opens.length p.oc, .slice p.lA s.locks.length p.lc, .slice p.wA s.works.length p.wc, .slice p.sA s.seats.length p.sc] 29)) := (Only.refl [] w).alloc _
  have bx := Sx.new w s p
  have hR := fun W (kW : Only [] w W) => right_state W s p (h.kept kW)
  have ub := h.fit.boot
  have un := h.fit.next
  have hlen : s.locks.length = p.lv.length := h.llen
  have hlb := h.locks
  have htb : Els ndE 5 w (tailA p.tA p.tc 1 5) (s.tree.drop 1) ∨ ¬ RightS s := by
    by_cases hr : RightS s
    · exact .inl (h.tree.tail h.tc (by have := hr.tree.tree.cons; rw [this]; simp))
    · exact .inr hr
  have hob := h.opens
  have hwb := h.works
  have hsb := h.seats
  have htc := h.tc
  have hlk : ∀ (hr : RightS s) (x : Lv), x ∈ p.lv → ∀ W, Only [] w W → Calls Tryz.prog 14 #[lkV x.L (.slice x.A x.L.hs.length x.c)] W fun e w' => e = .returned (chV (lvR x)) ∧ Only [] W w' := fun hr x hx W kW => by
    have hm : x.L ∈ s.locks := by rw [h.lks]; exact List.mem_map.2 ⟨x, hx, rfl⟩
    have h4 := (hr.locks.each x.L hm).1.right.len
    exact lockRow_any W x.L x.A x.c ((h.lvs x hx).els.kept kW (by simp)) (by omega) (h.fit.locks x.L hm)
  have hnd := fun (hr : RightS s) x (hx : x ∈ s.tree.drop 1) W (kW : Only [] w W) => by
    have hm : x ∈ s.tree.tail := by rw [← List.drop_one]; exact hx
    have h8 := nm_len (hr.tree.tree.name x hm)
    exact inodeRow_any W x (h.fit.tree x (List.mem_of_mem_tail hm)) (by omega)
  have hop := fun (hr : RightS s) x (hx : x ∈ s.opens) W (kW : Only [] w W) => openRow_any W x (h.fit.opens x hx)
  have hse := fun (hr : RightS s) x (hx : x ∈ s.seats) W => seatRow_any W x (h.fit.seats x hx) (hr.seats.each x hx).right
  have hwk := fun (hr : RightS s) x (hx : x ∈ s.works) W (kW : Only [] w W) => by
    have hq := (hr.works.each x hx).2
    have h6 := hq.len64
    exact workRow_any W x (h.fit.works x hx) hq.code (by omega)
  have hmax : RightS s → s.locks.length ≤ 40 ∧ s.tree.length ≤ 40 ∧ s.opens.length ≤ 12 ∧ s.seats.length ≤ 4 ∧ s.works.length ≤ 40 ∧ 1 ≤ s.tree.length := fun hr =>
    ⟨hr.locks.len, hr.tree.tree.len, hr.opens.right.len, seats_few hr, works_few hr, by have := hr.tree.tree.cons; rw [this]; simp⟩
  have hall : ∀ v w', Mine chE 3 48 (w.alloc (.cells #[.int .u32 s.boot, .int .u32 s.next, .slice p.tA s.tree.length p.tc, .slice p.oA s.opens.length p.oc, .slice p.lA s.locks.length p.lc, .slice p.wA s.works.length p.wc, .slice p.sA s.seats.length p.sc] 29)) w' v ([bootR s.boot, nextR s.next] ++ p.lv.map lvR ++ (s.tree.drop 1).map nodeR ++ s.opens.map openR ++ s.seats.map seatR ++ s.works.map workR) → RightS s → RowsAns s w w' (.returned (.tuple #[v, .int .i64 0])) := fun v w' hm hr => by
    refine .inl ⟨hr, v, rfl, ?_⟩
    have e : rowsL s = [bootR s.boot, nextR s.next] ++ p.lv.map lvR ++ (s.tree.drop 1).map nodeR ++ s.opens.map openR ++ s.seats.map seatR ++ s.works.map workR := by
      unfold rowsL
      rw [h.lks, List.map_map, List.drop_one]
      rfl
    rw [e]
    exact Mine.from k0 hm
  have hnone : ∀ w', ¬ RightS s → Only [] w w' → RowsAns s w w' (.returned (.tuple #[.slice none 0 0, .int .i64 1])) := fun w' hr k => .inr ⟨hr, rfl, k⟩
  generalize RowsAns s w = RA at *
  generalize hRS : RightS s = R at *
  replace hRS := Lib.hid hRS
  unfold staV at hR ⊢
  obtain ⟨sb, sn, t, so, sl, sw, ss⟩ := s
  obtain ⟨tA, tc, oA, oc, lA, lc, lv, wA, wc, sA, sc⟩ := p
  simp only at k0 bx hR ub un hlen hlb htb hob hwb hsb htc hlk hnd hop hse hwk hmax hall ⊢
  have KB := fun W kW => bx.at (S := []) (w' := W) kW (by simp)
  simp only at KB
  obtain ⟨c0, c1, c2, c3, c4, c5, c6⟩ := KB _ (Only.refl _ _)
  replace KB := Lib.hid KB
  replace hR := Lib.hid hR
  replace hlk := Lib.hid hlk
  replace hnd := Lib.hid hnd
  replace hop := Lib.hid hop
  replace hse := Lib.hid hse
  replace hwk := Lib.hid hwk
  replace hall := Lib.hid hall
  replace hnone := Lib.hid hnone
  replace hlen := Lib.hid hlen
  replace htb := Lib.hid htb
  have hwz : w.heap.size < (w.alloc (.cells #[.int .u32 sb, .int .u32 sn, .slice tA t.length tc, .slice oA so.length oc, .slice lA sl.length lc, .slice wA sw.length wc, .slice sA ss.length sc] 29)).heap.size := by simp
  clear h bx
  go_enter Tryz.func6, Tryz.ntmps6
  go_wp2_with fail
  refine (hR.out _ k0).mono ?_; rintro e w1 ⟨hs, k1⟩
  clear c0 c1 c2 c3 c4 c5 c6
  obtain ⟨c0, c1, c2, c3, c4, c5, c6⟩ := KB.out _ k1
  rcases says_bool hs with ⟨hr, rfl⟩ | ⟨hr, rfl⟩
  rotate_left
  · have hn := Lib.hid (hnone.out _ hr (k0.trans k1))
    clear hs hr hmax
    go_wp2
    exact hn.out
  clear hs
  obtain ⟨m1, m2, m3, m4, m5, m6⟩ := hmax hr
  have htb2 : Hid (Els ndE 5 w (tailA tA tc 1 5) (t.drop 1)) := by
    rcases htb.out with h | h
    · exact h
    · exact absurd hr h
  have hlk2 := Lib.hid (hlk.out hr)
  have hnd2 := Lib.hid (hnd.out hr)
  have hop2 := Lib.hid (hop.out hr)
  have hse2 := Lib.hid (hse.out hr)
  have hwk2 := Lib.hid (hwk.out hr)
  have hall2 := Lib.hid (fun v w' hm => hall.out v w' hm hr)
  clear hlk hnd hop hse hwk hall hnone htb hmax
  replace hr := Lib.hid hr
  have hsl : ∀ W : World, (Instr.slice 23 (.slice tA t.length tc) (some (.int .i64 1)) none none).run Tryz.prog W = .ok (.slice (tailA tA tc 1 5) (t.length - 1 : Nat) (tc - 1)) W := fun W => run_tail 23 42 Tryz.underlying23 Tryz.sizeOf42 tA t.length tc 1 1 rfl m6 W
  have hN1 := fun W => numberRow_any W [66] sb (by simp) ub
  have hN2 := fun W => numberRow_any W [73] sn (by simp) un
  rw [show strOf [66] = (⟨#[66]⟩ : ByteArray) from rfl] at hN1
  rw [show strOf [73] = (⟨#[73]⟩ : ByteArray) from rfl] at hN2
  generalize hb1 : encNs [sb.toNat] = eb at *
  generalize hb2 : encNs [sn.toNat] = en at *
  replace hb1 := Lib.hid hb1
  replace hb2 := Lib.hid hb2
  simp only [chV] at hN1 hN2
  replace hN1 := Lib.hid hN1
  replace hN2 := Lib.hid hN2
  have KQ : Hid (∀ W, Only [] (w.alloc (.cells #[.int .u32 sb, .int .u32 sn, .slice tA t.length tc, .slice oA so.length oc, .slice lA sl.length lc, .slice wA sw.length wc, .slice sA ss.length sc] 29)) W → W.cell? ⟨w.heap.size, 0, none⟩ = some (.int .u32 sb) ∧ W.cell? ⟨w.heap.size, 1, none⟩ = some (.int .u32 sn)) := fun W kW => ⟨(KB.out W kW).1, (KB.out W kW).2.1⟩
  go_wp2_with fail
  refine wp_region_held_drew (S := fun w' => w'.cell? ⟨w.heap.size, 0, none⟩ = some (.int .u32 sb) ∧ w'.cell? ⟨w.heap.size, 1, none⟩ = some (.int .u32 sn)) (by kernel_rfl) (KQ.out _ k1.drew) (fun hHeld => ?_)
  refine held_take 0 (.pointer (some ⟨w.heap.size, 0, none⟩)) rfl (by kernel_rfl) (by kernel_rfl) (by kernel_rfl) (fun _ _ _ h => h) hHeld (Or.inl ⟨by rfl, fun w' hSw => by (try dsimp only at hSw); (try subst hSw); go_simp⟩) ?_
  simp only [Act.put, List.setIfInBounds_toArray, List.set_cons_zero, List.set_cons_succ]
  refine held_take 1 (.int .u32 sb) rfl (by kernel_rfl) (by kernel_rfl) (by kernel_rfl) (fun _ _ _ h => h) hHeld (Or.inl ⟨by rfl, fun w' hSw => by (try dsimp only at hSw); (try subst hSw); go_simp⟩) ?_
  simp only [Act.put, List.setIfInBounds_toArray, List.set_cons_zero, List.set_cons_succ]
  refine held_take 3 (.pointer (some ⟨w.heap.size, 1, none⟩)) rfl (by kernel_rfl) (by kernel_rfl) (by kernel_rfl) (fun _ _ _ h => h) hHeld (Or.inl ⟨by rfl, fun w' hSw => by (try dsimp only at hSw); (try subst hSw); go_simp⟩) ?_
  simp only [Act.put, List.setIfInBounds_toArray, List.set_cons_zero, List.set_cons_succ]
  refine held_take 4 (.int .u32 sn) rfl (by kernel_rfl) (by kernel_rfl) (by kernel_rfl) (fun _ _ _ h => h) hHeld (Or.inl ⟨by rfl, fun w' hSw => by (try dsimp only at hSw); (try subst hSw); go_simp⟩) ?_
  simp only [Act.put, List.setIfInBounds_toArray, List.set_cons_zero, List.set_cons_succ]
  refine held_step 2 rfl (by kernel_rfl) (fun K hK => ?_)
  go_simp
  refine (hN1.out _).mono ?_; rintro e w2 ⟨rfl, k2⟩; replace k2 := k1.trans k2.undrew
  go_wp2_with fail
  refine hK.out _ _ (KQ.out _ k2) (fun hHeld => ?_)
  clear hK K
  refine held_step 5 rfl (by kernel_rfl) (fun K hK => ?_)
  go_simp
  refine (hN2.out _).mono ?_; rintro e w3 ⟨rfl, k3⟩; replace k3 := k2.trans k3
  go_wp2_with fail
  refine hK.out _ _ (KQ.out _ k3) (fun hHeld => ?_)
  clear hK K
  refine held_step 6 rfl (by kernel_rfl) (fun K hK => ?_)
  go_simp
  go_wp2_with fail
  refine hK.out _ _ (KQ.out _ (k3.alloc _)) (fun hHeld => ?_)
  clear hK K
  refine held_take 7 (.slice (some ⟨w3.heap.size, 0, none⟩) 2 2) rfl (by kernel_rfl) (by kernel_rfl) (by kernel_rfl) (fun _ _ _ h => h) hHeld (Or.inl ⟨by rfl, fun w' hSw => by (try dsimp only at hSw); (try subst hSw); go_simp⟩) ?_
  simp only [Act.put, List.setIfInBounds_toArray, List.set_cons_zero, List.set_cons_succ]
  refine wpAnyH_done (by kernel_rfl) ?_ _
  clear hHeld
  have hm1 : Mine chE 3 48 (w.alloc (.cells #[.int .u32 sb, .int .u32 sn, .slice tA t.length tc, .slice oA so.length oc, .slice lA sl.length lc, .slice wA sw.length wc, .slice sA ss.length sc] 29)) (w3.alloc (.cells #[.string (strOf [66]), .string (strOf eb), .bool false, .string (strOf [73]), .string (strOf en), .bool false] 48)) (.slice (some ⟨w3.heap.size, 0, none⟩) 2 2) [⟨[66], eb, false⟩, ⟨[73], en, false⟩] := Mine.lit (l := [⟨[66], eb, false⟩, ⟨[73], en, false⟩]) chE_length k3.size (Blk.new w3 _ _) (by unfold maxLen; simp) (k3.alloc _)
  obtain ⟨acc1, hq1⟩ : ∃ a, a = ([⟨[66], eb, false⟩, ⟨[73], en, false⟩] : List Ch) := ⟨_, rfl⟩
  have hacc1 : Hid (acc1.length ≤ 10) := by unfold Hid; rw [hq1]; simp
  rw [← hq1] at hm1
  replace hq1 := Lib.hid hq1
  obtain ⟨td, htd⟩ : ∃ td, td = t.drop 1 := ⟨_, rfl⟩
  have htdl : t.length - 1 = td.length := by rw [htd, List.length_drop]
  rw [htdl] at hsl
  rw [← htd] at htb2 hnd2 hall2
  generalize tailA tA tc 1 5 = tB at *
  have htdn : td.length ≤ 40 := by omega
  replace htd := Lib.hid htd
  replace htdl := Lib.hid htdl
  have hlb2 := hlb
  clear c0 c1 c2 c3 c4 c5 c6 k1 k2 k3 hN1 hN2 KQ
  obtain ⟨c0, c1, c2, c3, c4, c5, c6⟩ := KB.out _ hm1.only
  go_wp2_with fail
  clear c0 c1 c2 c3 c4 c5 c6
  go_loopw [28, 4] (fun i v wr => ∃ n : Nat, n ≤ sl.length ∧ i = .int .i64 n ∧ Mine chE 3 48 (w.alloc (.cells #[.int .u32 sb, .int .u32 sn, .slice tA t.length tc, .slice oA so.length oc, .slice lA sl.length lc, .slice wA sw.length wc, .slice sA ss.length sc] 29)) wr v (acc1 ++ (lv.take n).map lvR)) (fun i _ _ => sl.length - (intOf i).toNat)
  case atStart => exact ⟨0, Nat.zero_le _, rfl, by simpa using hm1⟩
  case round =>
  clear hm1
  obtain ⟨n, hn, rfl, hm⟩ := hrel
  have hkw := k0.trans hm.only
  by_cases hlt : n < sl.length
  · have hlv : n < lv.length := by have := hlen.out; omega
    obtain ⟨g, o, rfl, hg, hat⟩ := hlb.get hlv
    obtain ⟨e0, e1, e2, e3, e4, e5, e6⟩ := lvs_at (hat.kept hkw (by simp)) hlv
    have hx : lv[n]? = some lv[n] := List.getElem?_eq_getElem hlv
    have htk := map_take (enc := lvR) hx
    have hrow := hlk2.out lv[n] (List.getElem_mem hlv)
    generalize lv[n] = x at *
    obtain ⟨⟨x0, x1, x2, x3, x4, x5, xl⟩, xA, xd⟩ := x
    generalize hcc : lvR ⟨⟨x0, x1, x2, x3, x4, x5, xl⟩, xA, xd⟩ = cc at *
    replace hcc := Lib.hid hcc
    obtain ⟨kk, vv, gg⟩ := cc
    simp only [lkV, chV] at hrow e0 e1 e2 e3 e4 e5 e6
    replace hx := Lib.hid hx
    replace htk := Lib.hid htk
    have hma := hm.keep ((Only.refl [] _).alloc (.cells #[.int .u32 x0, .int .u32 x1, .int .u32 x2, .int .u32 x3, .bool x4, .bool x5, .slice xA xl.length xd] 45))
    have hwa := k0.trans hma.only
    replace hrow := Lib.hid hrow
    clear hat hm
    go_wp2_with fail
    refine (hrow.out _ hwa).mono ?_; rintro e w3 ⟨rfl, k3⟩
    have hmb := hma.keep k3
    clear hma e0 e1 e2 e3 e4 e5 e6 k3
    have hmc := hmb.keep ((Only.refl [] _).alloc (.cells #[.string (strOf kk), .string (strOf vv), .bool gg] 48))
    have b5 : Blk (w3.alloc (.cells #[.string (strOf kk), .string (strOf vv), .bool gg] 48)) w3.heap.size 48 (chE ⟨kk, vv, gg⟩).toArray := Blk.new _ _ _
    obtain ⟨LL, hLL⟩ : ∃ LL, LL = acc1 ++ (lv.take n).map lvR := ⟨_, rfl⟩
    rw [← hLL] at hmc
    have hll : Hid (LL.length ≤ 10000) := by
      unfold Hid
      have := hacc1.out
      rw [hLL, List.length_append, List.length_map, List.length_take]
      omega
    replace hLL := Lib.hid hLL
    replace hmc := Lib.hid hmc
    replace b5 := Lib.hid b5
    clear hmb
    go_wp2_with (at_builtin; go_must (refine wpList_push rfl _ _ 32 rfl 48 _ 40 chE_length (by decide) chE_one Tryz.underlying32 info_ch rfl _ LL.length LL rfl hmc.out.own w3.heap.size ⟨kk, vv, gg⟩ 48 rfl b5.out ?c1 ?c2 ?go))
    case c1 => unfold maxLen; have := hll.out; omega
    case c2 => have := hll.out; omega
    case go =>
    intro vn w6 h6 g6 a6
    have hm6 := hmc.out.pushed h6 g6 (by simpa using a6)
    rw [hLL.out, List.append_assoc, ← htk.out] at hm6
    clear h6 g6 a6 hmc b5
    go_wp2
    go_roundw
    case rel => exact ⟨n + 1, by omega, by go_num, hm6⟩
    case measure => simp [intOf]; omega
  have hm2 := hm
  rw [List.take_of_length_le (by have := hlen.out; omega)] at hm2
  clear hm
  obtain ⟨acc2, hq2⟩ : ∃ a, a = acc1 ++ lv.map lvR := ⟨_, rfl⟩
  rw [← hq2] at hm2
  have hacc2 : Hid (acc2.length ≤ 2000) := by
    have := hacc1.out
    unfold Hid
    rw [hq2, List.length_append, List.length_map]
    have := hlen.out
    omega
  replace hq2 := Lib.hid hq2
  obtain ⟨c0, c1, c2, c3, c4, c5, c6⟩ := KB.out _ hm2.only
  go_wp2_with fail
  clear c0 c1 c2 c3 c4 c5 c6
  go_loopw [42, 4] (fun i v wr => ∃ n : Nat, n ≤ td.length ∧ i = .int .i64 n ∧ Mine chE 3 48 (w.alloc (.cells #[.int .u32 sb, .int .u32 sn, .slice tA t.length tc, .slice oA so.length oc, .slice lA sl.length lc, .slice wA sw.length wc, .slice sA ss.length sc] 29)) wr v (acc2 ++ (td.take n).map nodeR)) (fun i _ _ => td.length - (intOf i).toNat)
  case atStart => exact ⟨0, Nat.zero_le _, rfl, by simpa using hm2⟩
  case round =>
  clear hm2
  obtain ⟨n, hn, rfl, hm⟩ := hrel
  have hkw := k0.trans hm.only
  by_cases hlt : n < td.length
  · have hlv : n < td.length := by omega
    obtain ⟨g, o, rfl, hg, hat⟩ := htb2.out.get hlv
    obtain ⟨e0, e1, e2, e3, e4⟩ := nds_at (hat.kept hkw (by simp)) hlv
    have hx : td[n]? = some td[n] := List.getElem?_eq_getElem hlv
    have htk := map_take (enc := nodeR) hx
    have hrow := hnd2.out td[n] (List.getElem_mem hlv)
    generalize td[n] = x at *
    obtain ⟨x0, x1, x2, x3, x4⟩ := x
    generalize hcc : nodeR ⟨x0, x1, x2, x3, x4⟩ = cc at *
    replace hcc := Lib.hid hcc
    obtain ⟨kk, vv, gg⟩ := cc
    simp only [ndV, chV] at hrow e0 e1 e2 e3 e4
    replace hx := Lib.hid hx
    replace htk := Lib.hid htk
    have hma := hm.keep ((Only.refl [] _).alloc (.cells #[.int .u32 x0, .int .u32 x1, .string (strOf x2), .bool x3, .int .u32 x4] 42))
    have hwa := k0.trans hma.only
    replace hrow := Lib.hid hrow
    clear hat hm
    go_wp2_with fail
    refine (hrow.out _ hwa).mono ?_; rintro e w3 ⟨rfl, k3⟩
    have hmb := hma.keep k3
    clear hma e0 e1 e2 e3 e4 k3
    have hmc := hmb.keep ((Only.refl [] _).alloc (.cells #[.string (strOf kk), .string (strOf vv), .bool gg] 48))
    have b5 : Blk (w3.alloc (.cells #[.string (strOf kk), .string (strOf vv), .bool gg] 48)) w3.heap.size 48 (chE ⟨kk, vv, gg⟩).toArray := Blk.new _ _ _
    obtain ⟨LL, hLL⟩ : ∃ LL, LL = acc2 ++ (td.take n).map nodeR := ⟨_, rfl⟩
    rw [← hLL] at hmc
    have hll : Hid (LL.length ≤ 10000) := by
      unfold Hid
      have := hacc2.out
      rw [hLL, List.length_append, List.length_map, List.length_take]
      omega
    replace hLL := Lib.hid hLL
    replace hmc := Lib.hid hmc
    replace b5 := Lib.hid b5
    clear hmb
    go_wp2_with (at_builtin; go_must (refine wpList_push rfl _ _ 32 rfl 48 _ 40 chE_length (by decide) chE_one Tryz.underlying32 info_ch rfl _ LL.length LL rfl hmc.out.own w3.heap.size ⟨kk, vv, gg⟩ 48 rfl b5.out ?c1 ?c2 ?go))
    case c1 => unfold maxLen; have := hll.out; omega
    case c2 => have := hll.out; omega
    case go =>
    intro vn w6 h6 g6 a6
    have hm6 := hmc.out.pushed h6 g6 (by simpa using a6)
    rw [hLL.out, List.append_assoc, ← htk.out] at hm6
    clear h6 g6 a6 hmc b5
    go_wp2
    go_roundw
    case rel => exact ⟨n + 1, by omega, by go_num, hm6⟩
    case measure => simp [intOf]; omega
  have hm3 := hm
  rw [List.take_of_length_le (by omega)] at hm3
  clear hm
  obtain ⟨acc3, hq3⟩ : ∃ a, a = acc2 ++ td.map nodeR := ⟨_, rfl⟩
  rw [← hq3] at hm3
  have hacc3 : Hid (acc3.length ≤ 3000) := by
    have := hacc2.out
    unfold Hid
    rw [hq3, List.length_append, List.length_map]
    have := hlen.out
    omega
  replace hq3 := Lib.hid hq3
  obtain ⟨c0, c1, c2, c3, c4, c5, c6⟩ := KB.out _ hm3.only
  go_wp2_with fail
  clear c0 c1 c2 c3 c4 c5 c6
  go_loopw [55, 4] (fun i v wr => ∃ n : Nat, n ≤ so.length ∧ i = .int .i64 n ∧ Mine chE 3 48 (w.alloc (.cells #[.int .u32 sb, .int .u32 sn, .slice tA t.length tc, .slice oA so.length oc, .slice lA sl.length lc, .slice wA sw.length wc, .slice sA ss.length sc] 29)) wr v (acc3 ++ (so.take n).map openR)) (fun i _ _ => so.length - (intOf i).toNat)
  case atStart => exact ⟨0, Nat.zero_le _, rfl, by simpa using hm3⟩
  case round =>
  clear hm3
  obtain ⟨n, hn, rfl, hm⟩ := hrel
  have hkw := k0.trans hm.only
  by_cases hlt : n < so.length
  · have hlv : n < so.length := by omega
    obtain ⟨g, o, rfl, hg, hat⟩ := hob.get hlv
    obtain ⟨e0, e1, e2, e3, e4⟩ := ops_at (hat.kept hkw (by simp)) hlv
    have hx : so[n]? = some so[n] := List.getElem?_eq_getElem hlv
    have htk := map_take (enc := openR) hx
    have hrow := hop2.out so[n] (List.getElem_mem hlv)
    generalize so[n] = x at *
    obtain ⟨x0, x1, x2, x3, x4⟩ := x
    generalize hcc : openR ⟨x0, x1, x2, x3, x4⟩ = cc at *
    replace hcc := Lib.hid hcc
    obtain ⟨kk, vv, gg⟩ := cc
    simp only [opV, chV] at hrow e0 e1 e2 e3 e4
    replace hx := Lib.hid hx
    replace htk := Lib.hid htk
    have hma := hm.keep ((Only.refl [] _).alloc (.cells #[.int .u32 x0, .int .u32 x1, .int .u32 x2, .int .u32 x3, .int .u32 (x4 : Int)] 61))
    have hwa := k0.trans hma.only
    replace hrow := Lib.hid hrow
    clear hat hm
    go_wp2_with fail
    refine (hrow.out _ hwa).mono ?_; rintro e w3 ⟨rfl, k3⟩
    have hmb := hma.keep k3
    clear hma e0 e1 e2 e3 e4 k3
    have hmc := hmb.keep ((Only.refl [] _).alloc (.cells #[.string (strOf kk), .string (strOf vv), .bool gg] 48))
    have b5 : Blk (w3.alloc (.cells #[.string (strOf kk), .string (strOf vv), .bool gg] 48)) w3.heap.size 48 (chE ⟨kk, vv, gg⟩).toArray := Blk.new _ _ _
    obtain ⟨LL, hLL⟩ : ∃ LL, LL = acc3 ++ (so.take n).map openR := ⟨_, rfl⟩
    rw [← hLL] at hmc
    have hll : Hid (LL.length ≤ 10000) := by
      unfold Hid
      have := hacc3.out
      rw [hLL, List.length_append, List.length_map, List.length_take]
      omega
    replace hLL := Lib.hid hLL
    replace hmc := Lib.hid hmc
    replace b5 := Lib.hid b5
    clear hmb
    go_wp2_with (at_builtin; go_must (refine wpList_push rfl _ _ 32 rfl 48 _ 40 chE_length (by decide) chE_one Tryz.underlying32 info_ch rfl _ LL.length LL rfl hmc.out.own w3.heap.size ⟨kk, vv, gg⟩ 48 rfl b5.out ?c1 ?c2 ?go))
    case c1 => unfold maxLen; have := hll.out; omega
    case c2 => have := hll.out; omega
    case go =>
    intro vn w6 h6 g6 a6
    have hm6 := hmc.out.pushed h6 g6 (by simpa using a6)
    rw [hLL.out, List.append_assoc, ← htk.out] at hm6
    clear h6 g6 a6 hmc b5
    go_wp2
    go_roundw
    case rel => exact ⟨n + 1, by omega, by go_num, hm6⟩
    case measure => simp [intOf]; omega
  have hm4 := hm
  rw [List.take_of_length_le (by omega)] at hm4
  clear hm
  obtain ⟨acc4, hq4⟩ : ∃ a, a = acc3 ++ so.map openR := ⟨_, rfl⟩
  rw [← hq4] at hm4
  have hacc4 : Hid (acc4.length ≤ 4000) := by
    have := hacc3.out
    unfold Hid
    rw [hq4, List.length_append, List.length_map]
    have := hlen.out
    omega
  replace hq4 := Lib.hid hq4
  obtain ⟨c0, c1, c2, c3, c4, c5, c6⟩ := KB.out _ hm4.only
  go_wp2_with fail
  clear c0 c1 c2 c3 c4 c5 c6
  go_loopw [68, 4] (fun i v wr => ∃ n : Nat, n ≤ ss.length ∧ i = .int .i64 n ∧ Mine chE 3 48 (w.alloc (.cells #[.int .u32 sb, .int .u32 sn, .slice tA t.length tc, .slice oA so.length oc, .slice lA sl.length lc, .slice wA sw.length wc, .slice sA ss.length sc] 29)) wr v (acc4 ++ (ss.take n).map seatR)) (fun i _ _ => ss.length - (intOf i).toNat)
  case atStart => exact ⟨0, Nat.zero_le _, rfl, by simpa using hm4⟩
  case round =>
  clear hm4
  obtain ⟨n, hn, rfl, hm⟩ := hrel
  have hkw := k0.trans hm.only
  by_cases hlt : n < ss.length
  · obtain ⟨g, o, rfl, hg, hat⟩ := hsb.get hlt
    have hrg := ElsAt.range (hat.kept hkw (by simp)) hlt
    have hx : ss[n]? = some ss[n] := List.getElem?_eq_getElem hlt
    have htk := map_take (enc := seatR) hx
    have hrow := hse2.out ss[n] (List.getElem_mem hlt)
    generalize ss[n] = x at *
    generalize hcc : seatR x = cc at *
    replace hcc := Lib.hid hcc
    obtain ⟨kk, vv, gg⟩ := cc
    simp only [chV] at hrow
    replace hx := Lib.hid hx
    replace htk := Lib.hid htk
    replace hrow := Lib.hid hrow
    replace hrg := Lib.hid hrg
    have bz := Lib.hid (Blk.new wr 56 (seaA zSea))
    have KM := Lib.hid (fun V (h2 : Only [wr.heap.size] (wr.alloc (.cells (seaA zSea) 56)) V) => hm.keep (((Only.refl [] wr).alloc _).beyond h2 (Nat.le_refl _)))
    clear hat hm
    go_wp2_with (first | refine wpList_load_at (by rfl) 56 _ rfl g (o + n * 21) rfl (seaE x) _ hrg.out Tryz.underlying56 rfl size_sea ?_ | (refine wpList_store_sea x zSea rfl _ _ rfl wr.heap.size rfl rfl bz.out ?_; intro wa hbx kbx) | (refine wpList_load_blk rfl 56 _ rfl wr.heap.size rfl (seaA x).toList _ hbx Tryz.underlying56 rfl size_sea ?_))
    refine (hrow.out _).mono ?_; rintro e w3 ⟨rfl, k3⟩
    have hmb := (KM.out wa kbx).keep k3
    clear KM hbx kbx
    have hmc := hmb.keep ((Only.refl [] _).alloc (.cells #[.string (strOf kk), .string (strOf vv), .bool gg] 48))
    have b5 : Blk (w3.alloc (.cells #[.string (strOf kk), .string (strOf vv), .bool gg] 48)) w3.heap.size 48 (chE ⟨kk, vv, gg⟩).toArray := Blk.new _ _ _
    obtain ⟨LL, hLL⟩ : ∃ LL, LL = acc4 ++ (ss.take n).map seatR := ⟨_, rfl⟩
    rw [← hLL] at hmc
    have hll : Hid (LL.length ≤ 10000) := by
      unfold Hid
      have := hacc4.out
      rw [hLL, List.length_append, List.length_map, List.length_take]
      omega
    replace hLL := Lib.hid hLL
    replace hmc := Lib.hid hmc
    replace b5 := Lib.hid b5
    clear hmb
    go_wp2_with (at_builtin; go_must (refine wpList_push rfl _ _ 32 rfl 48 _ 40 chE_length (by decide) chE_one Tryz.underlying32 info_ch rfl _ LL.length LL rfl hmc.out.own w3.heap.size ⟨kk, vv, gg⟩ 48 rfl b5.out ?c1 ?c2 ?go))
    case c1 => unfold maxLen; have := hll.out; omega
    case c2 => have := hll.out; omega
    case go =>
    intro vn w6 h6 g6 a6
    have hm6 := hmc.out.pushed h6 g6 (by simpa using a6)
    rw [hLL.out, List.append_assoc, ← htk.out] at hm6
    clear h6 g6 a6 hmc b5
    go_wp2
    go_roundw
    case rel => exact ⟨n + 1, by omega, by go_num, hm6⟩
    case measure => simp [intOf]; omega
  have hm5 := hm
  rw [List.take_of_length_le (by omega)] at hm5
  clear hm
  obtain ⟨acc5, hq5⟩ : ∃ a, a = acc4 ++ ss.map seatR := ⟨_, rfl⟩
  rw [← hq5] at hm5
  have hacc5 : Hid (acc5.length ≤ 5000) := by
    have := hacc4.out
    unfold Hid
    rw [hq5, List.length_append, List.length_map]
    have := hlen.out
    omega
  replace hq5 := Lib.hid hq5
  obtain ⟨c0, c1, c2, c3, c4, c5, c6⟩ := KB.out _ hm5.only
  go_wp2_with fail
  clear c0 c1 c2 c3 c4 c5 c6
  go_loopw [81, 4] (fun i v wr => ∃ n : Nat, n ≤ sw.length ∧ i = .int .i64 n ∧ Mine chE 3 48 (w.alloc (.cells #[.int .u32 sb, .int .u32 sn, .slice tA t.length tc, .slice oA so.length oc, .slice lA sl.length lc, .slice wA sw.length wc, .slice sA ss.length sc] 29)) wr v (acc5 ++ (sw.take n).map workR)) (fun i _ _ => sw.length - (intOf i).toNat)
  case atStart => exact ⟨0, Nat.zero_le _, rfl, by simpa using hm5⟩
  case round =>
  clear hm5
  obtain ⟨n, hn, rfl, hm⟩ := hrel
  have hkw := k0.trans hm.only
  by_cases hlt : n < sw.length
  · have hlv : n < sw.length := by omega
    obtain ⟨g, o, rfl, hg, hat⟩ := hwb.get hlv
    obtain ⟨e0, e1, e2, e3, e4, e5, e6, e7⟩ := wks_at (hat.kept hkw (by simp)) hlv
    have hx : sw[n]? = some sw[n] := List.getElem?_eq_getElem hlv
    have htk := map_take (enc := workR) hx
    have hrow := hwk2.out sw[n] (List.getElem_mem hlv)
    generalize sw[n] = x at *
    obtain ⟨x0, x1, x2, x3, x4, x5, x6, x7⟩ := x
    generalize hcc : workR ⟨x0, x1, x2, x3, x4, x5, x6, x7⟩ = cc at *
    replace hcc := Lib.hid hcc
    obtain ⟨kk, vv, gg⟩ := cc
    simp only [wkV, chV] at hrow e0 e1 e2 e3 e4 e5 e6 e7
    replace hx := Lib.hid hx
    replace htk := Lib.hid htk
    have hma := hm.keep ((Only.refl [] _).alloc (.cells #[.int .u32 x0, .int .u32 x1, .int .u32 x2, .int .u32 x3, .int .i64 x4, .int .u32 x5, .int .u32 x6, .string (strOf x7)] 50))
    have hwa := k0.trans hma.only
    replace hrow := Lib.hid hrow
    clear hat hm
    go_wp2_with fail
    refine (hrow.out _ hwa).mono ?_; rintro e w3 ⟨rfl, k3⟩
    have hmb := hma.keep k3
    clear hma e0 e1 e2 e3 e4 e5 e6 e7 k3
    have hmc := hmb.keep ((Only.refl [] _).alloc (.cells #[.string (strOf kk), .string (strOf vv), .bool gg] 48))
    have b5 : Blk (w3.alloc (.cells #[.string (strOf kk), .string (strOf vv), .bool gg] 48)) w3.heap.size 48 (chE ⟨kk, vv, gg⟩).toArray := Blk.new _ _ _
    obtain ⟨LL, hLL⟩ : ∃ LL, LL = acc5 ++ (sw.take n).map workR := ⟨_, rfl⟩
    rw [← hLL] at hmc
    have hll : Hid (LL.length ≤ 10000) := by
      unfold Hid
      have := hacc5.out
      rw [hLL, List.length_append, List.length_map, List.length_take]
      omega
    replace hLL := Lib.hid hLL
    replace hmc := Lib.hid hmc
    replace b5 := Lib.hid b5
    clear hmb
    go_wp2_with (at_builtin; go_must (refine wpList_push rfl _ _ 32 rfl 48 _ 40 chE_length (by decide) chE_one Tryz.underlying32 info_ch rfl _ LL.length LL rfl hmc.out.own w3.heap.size ⟨kk, vv, gg⟩ 48 rfl b5.out ?c1 ?c2 ?go))
    case c1 => unfold maxLen; have := hll.out; omega
    case c2 => have := hll.out; omega
    case go =>
    intro vn w6 h6 g6 a6
    have hm6 := hmc.out.pushed h6 g6 (by simpa using a6)
    rw [hLL.out, List.append_assoc, ← htk.out] at hm6
    clear h6 g6 a6 hmc b5
    go_wp2
    go_roundw
    case rel => exact ⟨n + 1, by omega, by go_num, hm6⟩
    case measure => simp [intOf]; omega
  have hm6 := hm
  rw [List.take_of_length_le (by omega)] at hm6
  clear hm
  obtain ⟨acc6, hq6⟩ : ∃ a, a = acc5 ++ sw.map workR := ⟨_, rfl⟩
  rw [← hq6] at hm6
  have hacc6 : Hid (acc6.length ≤ 6000) := by
    have := hacc5.out
    unfold Hid
    rw [hq6, List.length_append, List.length_map]
    have := hlen.out
    omega
  replace hq6 := Lib.hid hq6
  obtain ⟨c0, c1, c2, c3, c4, c5, c6⟩ := KB.out _ hm6.only
  have hfin := Lib.hid (hall2.out _ _ (by
    have e : acc6 = [bootR sb, nextR sn] ++ lv.map lvR ++ td.map nodeR ++ so.map openR ++ ss.map seatR ++ sw.map workR := by
      rw [hq6.out, hq5.out, hq4.out, hq3.out, hq2.out, hq1.out, ← hb1.out, ← hb2.out]
      rfl
    rw [e] at hm6
    exact hm6))
  clear hm6
  go_wp2
  exact hfin.out

end Go.Proofs.YtalkhhjfplahkaaGreat
