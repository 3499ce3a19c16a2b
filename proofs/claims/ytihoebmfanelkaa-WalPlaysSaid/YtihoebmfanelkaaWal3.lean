/- Lists of writes; settle. -/
import Derived.Test.YtihoebmfanelkaaWal2
namespace Go.Proofs.Ytihoebmfanelkaa
open Go.RowKit

def wkCells (l : List Bk) : List Value := (l.map fun x => [Value.int .i64 x.at_, .string (strOf x.data)]).flatten
theorem wkCells_snoc (l : List Bk) (x : Bk) : wkCells (l ++ [x]) = wkCells l ++ [.int .i64 x.at_, .string (strOf x.data)] := by simp [wkCells]
theorem wkCells_at (l : List Bk) (i : Nat) (x : Bk) (h : l[i]? = some x) : (wkCells l)[i * 2]? = some (.int .i64 x.at_) ∧ (wkCells l)[i * 2 + 1]? = some (.string (strOf x.data)) := by
  have hl : ∀ b ∈ l.map fun x => [Value.int .i64 x.at_, .string (strOf x.data)], b.length = 2 := by
    intro b hb
    simp only [List.mem_map] at hb
    obtain ⟨y, _, rfl⟩ := hb
    rfl
  have hg : (l.map fun x => [Value.int .i64 x.at_, .string (strOf x.data)])[i]? = some [Value.int .i64 x.at_, .string (strOf x.data)] := by simp [h]
  exact ⟨flat_at 2 _ i 0 _ _ hl hg rfl, flat_at 2 _ i 1 _ _ hl hg rfl⟩

/-- A list that a call made. -/
def NewList (w w' : World) (v : Value) (l : List Bk) : Prop :=
  ∃ A c, v = .slice A l.length c ∧ Blks w' A l ∧ Only [] w w' ∧ ∀ a, A = some a → w.heap.size ≤ a.block

theorem blks_of_owns {w w' : World} {e : TypeId} {v : Value} {l : List Bk} (h : w'.ownsRow 0 e 2 v l.length (wkCells l)) (hok : ∀ x ∈ l, x.okay) (k : Only [] w w') (hnew : ∀ g, v.ownBlock = some g → w.heap.size ≤ g) : NewList w w' v l := by
  by_cases h0 : l.length = 0
  · obtain rfl : l = [] := List.eq_nil_of_length_eq_zero h0
    rcases id h.2 with ⟨rfl, _⟩ | ⟨g, cap, cur, rfl, hb, hg, r⟩
    · exact ⟨none, 0, rfl, ⟨.inl rfl, by simp⟩, k, by simp⟩
    · exact ⟨_, _, rfl, ⟨.inl rfl, by simp⟩, k, fun a ha => by injection ha with ha; subst ha; exact hnew g rfl⟩
  · obtain ⟨g, c, rfl, _, _⟩ := h.form (by omega)
    refine ⟨_, _, rfl, ⟨.inr ⟨g, 0, rfl, (h.lt g rfl).2, fun i hi => ?_⟩, hok⟩, k, fun a ha => by injection ha with ha; subst ha; exact hnew g rfl⟩
    obtain ⟨r1, r2⟩ := wkCells_at l i l[i] (List.getElem?_eq_getElem hi)
    have q0 := h.cells rfl _ _ r1
    have q1 := h.cells rfl _ _ r2
    rw [addr_add, Nat.zero_add] at q0 q1
    rw [Nat.zero_add]
    exact ⟨q0, q1⟩

/-! What the writes of a list, and the barrier behind them, make of a device. -/
def settleW (s : St) : List Bk → Int × St
  | [] => (barErr s, barred s)
  | x :: r => if writeErr s x.at_ x.data = 0 then settleW (written s x.at_ x.data) r else (writeErr s x.at_ x.data, written s x.at_ x.data)

theorem written_late (s : St) (k : Int) (b : List UInt8) : (written s k b).late.length ≤ s.late.length + 1 := by
  unfold written
  split
  · omega
  · split
    · rw [burnt_late]; omega
    · simp

theorem wsettle_any (w : World) (p : Nat) (F : List Nat) (s : St) (A : Option Addr) (c : Nat) (l : List Bk) (hd : Dev w p F s) (hb : Blks w A l) (hA : ∀ a, A = some a → a.block ∉ F) (hlen : s.late.length + l.length ≤ 1048576) :
    Calls Try.prog 41 #[.pointer (some ⟨p, 0, none⟩), .slice A l.length c] w fun e w' => e = .returned (.int .i64 (settleW s l).1) ∧ Did w w' p F (settleW s l).2 := by
  obtain ⟨F0, hd0, hsub, hF0⟩ := hd.trim
  refine Calls.mono (R := fun e w' => e = .returned (.int .i64 (settleW s l).1) ∧ Did w w' p F0 (settleW s l).2) ?_ (fun e w' h => ⟨h.1, h.2.mono hsub⟩)
  have hA0 : ∀ a, A = some a → a.block ∉ F0 := fun a ha hm => hA a ha (hsub _ hm)
  clear hd hsub hA
  replace hA0 := Lib.hid hA0
  replace hF0 := Lib.hid hF0
  have hll : l.length ≤ 1048576 := by omega
  go_enter Try.func41, Try.ntmps41
  go_wp2_with fail
  go_loopw [10] (fun i wr => ∃ (k : Nat) (sk : St) (Fk : List Nat), k ≤ l.length ∧ i = .int .i64 k ∧ settleW s l = settleW sk (l.drop k) ∧ sk.late.length ≤ s.late.length + k ∧ Dev wr p Fk sk ∧ Only F0 w wr ∧ Hid (∀ j ∈ Fk, j ∈ F0 ∨ w.heap.size ≤ j)) (fun i _ => l.length - (intOf i).toNat)
  case atStart => exact ⟨0, s, F0, Nat.zero_le _, rfl, by rw [List.drop_zero], by omega, hd0, Only.refl _ _, fun j hj => .inl hj⟩
  case round =>
    obtain ⟨k, sk, Fk, hk, rfl, hset, hlate, hdk, honly, hfk⟩ := hrel
    replace hset := Lib.hid hset
    by_cases hlt : k < l.length
    · obtain ⟨g, o, rfl, hg, hat⟩ := hb.get hlt
      have hgF : g ∉ F0 := hA0.out _ rfl
      have c0 := honly.cell (hat k hlt).1 hgF
      have c1 := honly.cell (hat k hlt).2 hgF
      have hok := hb.2 l[k] (List.getElem_mem hlt)
      have hset2 : settleW s l = if writeErr sk l[k].at_ l[k].data = 0 then settleW (written sk l[k].at_ l[k].data) (l.drop (k + 1)) else (writeErr sk l[k].at_ l[k].data, written sk l[k].at_ l[k].data) := by
        rw [hset.out, List.drop_eq_getElem_cons hlt, settleW]
      replace hset2 := Lib.hid hset2
      generalize l[k] = x at *
      obtain ⟨at_, data⟩ := x
      obtain ⟨⟨a0, a1⟩, _⟩ := hok
      simp only at c0 c1 a0 a1
      go_wp2_with fail
      refine (write_any _ p Fk sk at_ data a0 a1 (by omega) (hdk.kept ((Only.refl [] wr).alloc _) (by simp))).mono ?_
      rintro e w2 ⟨rfl, hdid⟩
      have hdid2 := hdid.from ((Only.refl [] wr).alloc _)
      clear hdid c0 c1
      obtain ⟨F2, hd2, k2, f2⟩ := hdid2
      have honly2 : Only F0 w w2 := honly.then k2 (fun i hi => hfk.out i hi)
      have hfk2 : Hid (∀ j ∈ F2, j ∈ F0 ∨ w.heap.size ≤ j) := fun j hj => by
        rcases f2.out j hj with h | h
        · exact hfk.out j h
        · exact .inr (Nat.le_trans honly.size h)
      clear f2
      by_cases he : writeErr sk at_ data = 0
      · have hset3 := hset2.out
        rw [if_pos he] at hset3
        rw [he]
        have hlate2 := written_late sk at_ data
        replace hset3 := Lib.hid hset3
        clear hset2 hset hdk honly k2
        go_wp2
        go_roundw
        case rel => exact ⟨k + 1, written sk at_ data, F2, by omega, by go_num, hset3.out, by omega, hd2, honly2, hfk2⟩
        case measure => simp [intOf]; omega
      · have hset3 := hset2.out
        rw [if_neg he] at hset3
        have he' : (writeErr sk at_ data != 0) = true := by simpa using he
        generalize writeErr sk at_ data = ee at *
        replace hset3 := Lib.hid hset3
        clear hset2 hset hdk honly k2
        go_wp2
        go_ret
        rw [hset3.out]
        exact ⟨rfl, F2, hd2, honly2, hfk2⟩
    · have hkl : k = l.length := by omega
      have hset3 := hset.out
      rw [hkl, List.drop_of_length_le (Nat.le_refl _), settleW] at hset3
      clear hset
      replace hset3 := Lib.hid hset3
      have hge : (l.length : Int) ≤ k := by omega
      go_wp2_with fail
      refine (barrier_any _ p Fk sk hdk).mono ?_
      rintro e w2 ⟨rfl, hs⟩
      have hfin : Did w w2 p F0 (barred sk) := ⟨Fk, hs.1, honly.then hs.2 (fun i hi => hfk.out i hi), hfk⟩
      replace hfin := Lib.hid hfin
      clear hs hdk honly hfk
      go_wp2
      go_ret
      rw [hset3.out]
      exact ⟨rfl, hfin.out⟩

/-- The same blocks, in the journal. -/
def copiesOf (l : List Bk) : List Bk := l.mapIdx fun i x => ⟨(1 + i : Nat), x.data⟩
theorem copiesOf_length (l : List Bk) : (copiesOf l).length = l.length := by simp [copiesOf]
theorem copiesOf_take (l : List Bk) (k : Nat) (h : k < l.length) : copiesOf (l.take (k + 1)) = copiesOf (l.take k) ++ [⟨(1 + k : Nat), l[k].data⟩] := by
  have ht : l.take (k + 1) = l.take k ++ [l[k]] := List.take_succ_eq_append_getElem h
  rw [ht, copiesOf, List.mapIdx_append]
  simp [copiesOf, List.length_take, Nat.min_eq_left (Nat.le_of_lt h)]

theorem zero_wwrite : (Try.prog.info? 100).map (fun i => (i.zero, i.size, i.bytes)) = some (some (.agg #[.int .i64 0, .string ⟨#[]⟩]), 2, 24) := by kernel_rfl

set_option maxRecDepth 100000 in
set_option maxHeartbeats 1000000 in
theorem copies_any (w : World) (A : Option Addr) (c : Nat) (l : List Bk) (hb : Blks w A l) (hl : l.length ≤ 1048576) :
    Calls Try.prog 44 #[.slice A l.length c] w fun e w' => ∃ v, e = .returned v ∧ NewList w w' v (copiesOf l) := by
  obtain ⟨ti, ht1, ht2, ht3, ht4⟩ := info_parts zero_wwrite
  replace ht1 := Lib.hid ht1
  replace ht2 := Lib.hid ht2
  replace ht3 := Lib.hid ht3
  replace ht4 := Lib.hid ht4
  go_enter Try.func44, Try.ntmps44
  go_wp2_with fail
  go_loopw [3, 8] (fun v i wr => ∃ (k : Nat) (vf : Value), k ≤ l.length ∧ i = .int .i64 k ∧ vf = v ∧ wr.ownsRow 0 100 2 vf k (wkCells (copiesOf (l.take k))) ∧ Only [] w wr ∧ Hid (∀ g, vf.ownBlock = some g → w.heap.size ≤ g)) (fun _ i _ => l.length - (intOf i).toNat)
  case atStart => exact ⟨0, _, Nat.zero_le _, rfl, rfl, World.ownsRow_nil _ 0 _ 2, Only.refl _ _, fun g hg => by simp [Value.ownBlock] at hg⟩
  case round =>
    obtain ⟨k, vf, hk, rfl, hvf, hown, honly, hnew⟩ := hrel
    subst hvf
    by_cases hlt : k < l.length
    · obtain ⟨g, o, rfl, hg, hat⟩ := hb.get hlt
      have c0 := honly.cell (hat k hlt).1 (by simp)
      have c1 := honly.cell (hat k hlt).2 (by simp)
      have hcp := Lib.hid (copiesOf_take l k hlt)
      generalize l[k] = x at *
      obtain ⟨at_, data⟩ := x
      simp only at c0 c1
      generalize hbs : strOf data = bs at *
      replace hbs := Lib.hid hbs
      have hk1 : wrap64 (1 + (k : Int)) = 1 + (k : Int) := by simp only [wrap64]; omega
      have news := World.news_of_block (Blk.new (wr.alloc (.cells #[.int .i64 at_, .string bs] 100)) 100 #[.int .i64 (1 + (k : Int)), .string bs])
      rw [show (wr.alloc (.cells #[.int .i64 at_, .string bs] 100)).heap.size = wr.heap.size + 1 by simp] at news
      have ka : Only [] wr ((wr.alloc (.cells #[.int .i64 at_, .string bs] 100)).alloc (.cells #[.int .i64 (1 + (k : Int)), .string bs] 100)) := ((Only.refl [] wr).alloc _).alloc _
      have owna := ownsRow_kept' hown ka (by simp)
      have hone : ∀ u ∈ [Value.int .i64 (1 + (k : Int)), .string bs], u.oneCell' = true := by
        intro u hu
        simp at hu
        rcases hu with rfl | rfl <;> rfl
      go_wp2_with (at_builtin; go_must (refine wpList_append_lies _ rfl (.tmp 13) (.tmp 19) 93 rfl 0 100 ti (.agg #[.int .i64 0, .string ⟨#[]⟩]) 2 24 Try.underlying93 ht1.out ht2.out ht3.out ht4.out rfl (by decide) vf k _ rfl owna ⟨wr.heap.size + 1, 0, none⟩ 1 1 [.int .i64 (1 + (k : Int)), .string bs] rfl rfl news hone (by decide) (by unfold maxLen; omega) (by omega) (Nat.zero_le _) _ rfl ?go))
      case go =>
        intro g5 cp w5 hown5 hgrow hat5 hlt5
        have hg5 : w.heap.size ≤ g5 := by
          rcases hat5 with h | h
          · exact hnew.out g5 h
          · have := ka.size; have := honly.size; omega
        have honly5 : Only [] w w5 := (honly.trans ka).grown hgrow (fun j hj => .inr (hnew.out j hj))
        have hown6 : w5.ownsRow 0 100 2 (.slice (some ⟨g5, 0, none⟩) (k + 1) cp) (k + 1) (wkCells (copiesOf (l.take (k + 1)))) := by
          rw [hcp.out, wkCells_snoc]
          simpa [hbs.out] using hown5
        have hnew5 : Hid (∀ g, (Value.slice (some ⟨g5, 0, none⟩) (k + 1) cp).ownBlock = some g → w.heap.size ≤ g) := fun g hg => by
          simp only [Value.ownBlock, Option.some.injEq] at hg
          omega
        replace hown6 := Lib.hid hown6
        clear hown5 hgrow hat5 owna news ka hown honly hnew c0 c1
        go_wp2
        go_roundw
        case rel => exact ⟨k + 1, _, by omega, by go_num, rfl, hown6.out, honly5, hnew5⟩
        case measure => simp [intOf]; omega
    · have hkl : k = l.length := by omega
      have hge : (l.length : Int) ≤ k := by omega
      have hok : ∀ x ∈ copiesOf l, x.okay := by
        intro x hx
        simp only [copiesOf, List.mem_mapIdx] at hx
        obtain ⟨i, hi, rfl⟩ := hx
        exact ⟨⟨by simp only; omega, by simp only; omega⟩, (hb.2 l[i] (List.getElem_mem hi)).2⟩
      have hfin : NewList w wr vf (copiesOf l) := by
        refine blks_of_owns (e := 100) ?_ hok honly hnew.out
        rw [copiesOf_length, ← hkl]
        rw [hkl, List.take_of_length_le (Nat.le_refl _)] at hown
        rw [hkl]
        exact hown
      replace hfin := Lib.hid hfin
      clear hown hok
      go_wp2
      go_ret
      exact ⟨_, rfl, hfin.out⟩

end Go.Proofs.Ytihoebmfanelkaa
