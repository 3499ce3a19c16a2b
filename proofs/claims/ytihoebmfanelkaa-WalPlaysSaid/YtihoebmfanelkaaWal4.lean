/- The home blocks as a commit is to leave them. -/
import Derived.Test.YtihoebmfanelkaaWal3
import Derived.Test.YtihoebmfanelkaaRow
namespace Go.Proofs.Ytihoebmfanelkaa
open Go.RowKit

theorem held_more {P : Program} {ops : Array Oper} {Q : Exit → Act → World → Prop} {md : Region.Mode} {S S' : World → Prop} (hS : ∀ w, S' w → S w) : ∀ (fuel : Nat) (listed : Array Bool) (a : Act) (w : World), wpAnyH P md ops Q S' fuel listed a w → wpAnyH P md ops Q S fuel listed a w
  | 0, _, _, _, h => h
  | fuel + 1, _, _, _, h => ⟨h.1, fun i hi => wpOp_mono (fun a' w' h' => ⟨hS _ h'.1, held_more hS fuel _ a' w' h'.2⟩) (h.2 i hi)⟩

/-- 's + t' in a region that draws its order. -/
theorem exec_concat {P : Program} {o : Oper} {ev : Operand → Value} (t u : TypeId) (x y : Operand) (hop : o.op = Op.binOp .add t x y u) (l m : List UInt8) (hx : ev x = .string (strOf l)) (hy : ev y = .string (strOf m)) (hlen : l.length + m.length ≤ 9223372036854775807) (w : World) :
    (execOp ev o).run P w = .ok (.value (.string (strOf (l ++ m)))) w := by
  have hr : (binOp .add t (.string (strOf l)) (.string (strOf m))).run P w = .ok (.string (strOf (l ++ m))) w := by
    rw [binOp_string_add, run_string_add_sum w _ _ (by rw [strOf_size, strOf_size]; exact hlen), strOf_append]
  simp only [execOp, hop, hx, hy, eqGuard_add, Sem.run_bind, Sem.run_pure, Result.andThen_ok, hr]

/-- A home block's bytes, and the home blocks, as commit n leaves them. -/
def homeL (n : Nat) (x : Bk) : List UInt8 := fillL (be4 (41 + x.at_.toNat) ++ be4 n ++ x.data)
def homesOf (n : Nat) (l : List Bk) : List Bk := l.map fun x => ⟨41 + x.at_, homeL n x⟩
theorem homesOf_length (n : Nat) (l : List Bk) : (homesOf n l).length = l.length := by simp [homesOf]
theorem homeL_length (n : Nat) (x : Bk) (h : x.data.length ≤ 248) : (homeL n x).length = 256 := fillL_length _ (by simp [be4_length]; omega)
theorem homesOf_take (n : Nat) (l : List Bk) (k : Nat) (h : k < l.length) : homesOf n (l.take (k + 1)) = homesOf n (l.take k) ++ [⟨41 + l[k].at_, homeL n l[k]⟩] := by
  rw [List.take_succ_eq_append_getElem h, homesOf, List.map_append]
  rfl

set_option maxRecDepth 100000 in
set_option maxHeartbeats 2000000 in
theorem changed_any (w : World) (A : Option Addr) (c : Nat) (l : List Bk) (n : Nat) (hn : n < 4294967296) (hb : Blks w A l) (hl : l.length ≤ 1048576) (hgood : ∀ x ∈ l, 0 ≤ x.at_ ∧ x.at_ ≤ 1048576 ∧ x.data.length ≤ 248) :
    Calls Try.prog 43 #[.slice A l.length c, .int .u32 (n : Int)] w fun e w' => ∃ v, e = .returned v ∧ NewList w w' v (homesOf n l) := by
  obtain ⟨z, hz⟩ : ∃ z : Int, z = (n : Int) := ⟨_, rfl⟩
  rw [← hz]
  have hz0 : 0 ≤ z := by omega
  have hz1 : z < 4294967296 := by omega
  replace hz := Lib.hid hz
  replace hn := Lib.hid hn
  obtain ⟨ti, ht1, ht2, ht3, ht4⟩ := info_parts zero_wwrite
  replace ht1 := Lib.hid ht1
  replace ht2 := Lib.hid ht2
  replace ht3 := Lib.hid ht3
  replace ht4 := Lib.hid ht4
  go_enter Try.func43, Try.ntmps43
  go_wp2_with fail
  go_loopw [5, 11] (fun v i wr => ∃ (k : Nat) (vf : Value), k ≤ l.length ∧ i = .int .i64 k ∧ vf = v ∧ wr.ownsRow 0 100 2 vf k (wkCells (homesOf n (l.take k))) ∧ Only [] w wr ∧ Hid (∀ g, vf.ownBlock = some g → w.heap.size ≤ g)) (fun _ i _ => l.length - (intOf i).toNat)
  case atStart => exact ⟨0, _, Nat.zero_le _, rfl, rfl, World.ownsRow_nil _ 0 _ 2, Only.refl _ _, fun g hg => by simp [Value.ownBlock] at hg⟩
  case round =>
    obtain ⟨k, vf, hk, rfl, hvf, hown, honly, hnew⟩ := hrel
    subst hvf
    by_cases hlt : k < l.length
    · obtain ⟨g, o, rfl, hg, hat⟩ := hb.get hlt
      have c0 := honly.cell (hat k hlt).1 (by simp)
      have c1 := honly.cell (hat k hlt).2 (by simp)
      have hcp := Lib.hid (homesOf_take n l k hlt)
      obtain ⟨g0, g1, g2⟩ := hgood _ (List.getElem_mem hlt)
      generalize l[k] = x at *
      obtain ⟨at_, data⟩ := x
      simp only at c0 c1 g0 g1 g2
      obtain ⟨a, rfl⟩ := Int.eq_ofNat_of_zero_le g0
      have hya : Hid ((41 : Int) + (a : Int) = ((41 + a : Nat) : Int)) := show _ = _ by omega
      generalize hbs : strOf data = bs at *
      replace hbs := Lib.hid hbs
      obtain ⟨q, hq⟩ : ∃ q, q = wr.heap.size := ⟨_, rfl⟩
      obtain ⟨p, hp⟩ : ∃ p, p = wr.heap.size + 1 := ⟨_, rfl⟩
      have bq : Blk (wr.alloc (.cells #[.int .i64 (a : Int), .string bs] 64)) q 64 #[.int .i64 (a : Int), .string bs] := by rw [hq]; exact Blk.new wr _ _
      have hwr : Wr ((wr.alloc (.cells #[.int .i64 (a : Int), .string bs] 64)).alloc (.cells #[.slice none 0 0] 113)) p [] [] := by
        refine ⟨_, ?_, World.ownsRow_nil _ 0 _ 1, by simp [Value.ownBlock], by simp [Value.ownBlock]⟩
        have := Blk.new (wr.alloc (.cells #[.int .i64 (a : Int), .string bs] 64)) 113 #[.slice none 0 0]
        rwa [show (wr.alloc (.cells #[.int .i64 (a : Int), .string bs] 64)).heap.size = p by rw [hp]; simp] at this
      have kV : Only [] wr ((wr.alloc (.cells #[.int .i64 (a : Int), .string bs] 64)).alloc (.cells #[.slice none 0 0] 113)) := ((Only.refl [] wr).alloc _).alloc _
      replace bq := bq.alloc (.cells #[.slice none 0 0] 113)
      have hqV := bq.lt
      have hpV := hwr.lt
      have hqp : q ≠ p := by omega
      have hwq : w.heap.size ≤ q := by have := honly.size; omega
      have hwp : w.heap.size ≤ p := by have := honly.size; omega
      have hrq : wr.heap.size ≤ q := by omega
      have hrp : wr.heap.size ≤ p := by omega
      go_wp2_with fail
      rw [← hp]
      simp only [← hq]
      have hrq2 : wr.heap.size = q := by omega
      generalize ((wr.alloc (.cells #[.int .i64 (a : Int), .string bs] 64)).alloc (.cells #[.slice none 0 0] 113)) = V at *
      replace hq := Lib.hid hq
      replace hp := Lib.hid hp
      refine (wnumber_any _ p [] [] (41 + (a : Int)) (41 + a) hya.out (by omega) hwr (by simp)).mono ?_
      rintro e w1 ⟨rfl, F1, h1, k1, f1⟩
      go_wp2_with fail
      refine (wnumber_any _ p F1 _ z n hz.out hn.out h1 (by simp [be4_length])).mono ?_
      rintro e w2 ⟨rfl, F2, h2, k2, f2⟩
      have bq1 := bq.kept k1 (by simp; exact hqp)
      have hF1 : ∀ i ∈ F1, V.heap.size ≤ i := fun i hi => (f1 i hi).resolve_left (by simp)
      have hqF1 : q ∉ F1 := fun h => by have := hF1 q h; omega
      have bq2 := bq1.kept k2 (by simp; exact ⟨hqp, hqF1⟩)
      have hF2 : ∀ i ∈ F2, V.heap.size ≤ i := fun i hi => by
        rcases f2 i hi with h | h
        · exact hF1 i h
        · have := k1.size; omega
      have k02 : Only [] wr w2 := by
        refine (kV.then k1 (by simp; exact hrp)).then k2 (fun i hi => ?_)
        rcases List.mem_cons.1 hi with rfl | hi
        · exact .inr hrp
        · have := hF1 i hi; have := kV.size; exact .inr (by omega)
      have d0 := bq2.cell 0
      have d1 := bq2.cell 1
      simp only [List.getElem?_toArray, List.getElem?_cons_zero, List.getElem?_cons_succ] at d0 d1
      have own2 := ownsRow_kept' hown k02 (by simp)
      have hown2lt : ∀ g, vf.ownBlock = some g → g < wr.heap.size := fun g hg => (hown.lt g hg).2
      have hqV2 := bq2.lt
      have hbytes : ([] ++ be4 (41 + a) ++ be4 n ++ data).length ≤ 256 := by simp [be4_length]; omega
      have hhome : homeL n ⟨(a : Int), data⟩ = fillL ([] ++ be4 (41 + a) ++ be4 n ++ data) := by simp [homeL]
      generalize hall : [] ++ be4 (41 + a) ++ be4 n = all at *
      replace hall := Lib.hid hall
      replace hhome := Lib.hid hhome
      have hlen1 : all.length + data.length ≤ 256 := by rw [List.length_append] at hbytes; exact hbytes
      clear bq bq1 k1 k2 f1 f2 hF1 hqF1 h1 hwr hown kV
      go_wp2_with fail
      have hw3 : IntKind.i64.wrap (41 + (a : Int)) = 41 + (a : Int) := by rw [IntKind.wrap_i64]; omega
      have kd : Only [] w2 w2.drew := (Only.refl [] w2).drew
      have h2d := h2.kept kd (by simp) (by simp)
      refine wp_region_held_drew (S := fun w' => w'.cell? ⟨q, 0, none⟩ = some (.int .i64 (a : Int)) ∧ w'.cell? ⟨q, 1, none⟩ = some (.string bs)) (by kernel_rfl) ⟨kd.cell d0 (by simp), kd.cell d1 (by simp)⟩ (fun hHeld => ?_)
      refine held_take 0 (vf) rfl (by kernel_rfl) (by kernel_rfl) (by kernel_rfl) (fun _ _ _ h => h) hHeld (Or.inl ⟨by rfl, fun w' hSw => by (try dsimp only at hSw); (try subst hSw); go_simp⟩) ?_
      simp only [Act.put, List.setIfInBounds_toArray, List.set_cons_zero, List.set_cons_succ]
      refine held_take 1 (.pointer (some ⟨q, 0, none⟩)) rfl (by kernel_rfl) (by kernel_rfl) (by kernel_rfl) (fun _ _ _ h => h) hHeld (Or.inl ⟨by rfl, fun w' hSw => by (try dsimp only at hSw); (try subst hSw); go_simp⟩) ?_
      simp only [Act.put, List.setIfInBounds_toArray, List.set_cons_zero, List.set_cons_succ]
      refine held_take 2 (.int .i64 (a : Int)) rfl (by kernel_rfl) (by kernel_rfl) (by kernel_rfl) (fun _ _ _ h => h) hHeld (Or.inl ⟨by rfl, fun w' hSw => by (try dsimp only at hSw); (try subst hSw); go_simp⟩) ?_
      simp only [Act.put, List.setIfInBounds_toArray, List.set_cons_zero, List.set_cons_succ]
      refine held_take 3 (.int .i64 (41 + (a : Int))) rfl (by kernel_rfl) (by kernel_rfl) (by kernel_rfl) (fun _ _ _ h => h) hHeld (Or.inl ⟨by rfl, fun w' hSw => by (try dsimp only at hSw); (try subst hSw); go_simp⟩) ?_
      simp only [Act.put, List.setIfInBounds_toArray, List.set_cons_zero, List.set_cons_succ]
      refine held_take 5 (.pointer (some ⟨q, 1, none⟩)) rfl (by kernel_rfl) (by kernel_rfl) (by kernel_rfl) (fun _ _ _ h => h) hHeld (Or.inl ⟨by rfl, fun w' hSw => by (try dsimp only at hSw); (try subst hSw); go_simp⟩) ?_
      simp only [Act.put, List.setIfInBounds_toArray, List.set_cons_zero, List.set_cons_succ]
      refine held_take 6 (.string bs) rfl (by kernel_rfl) (by kernel_rfl) (by kernel_rfl) (fun _ _ _ h => h) hHeld (Or.inl ⟨by rfl, fun w' hSw => by (try dsimp only at hSw); (try subst hSw); go_simp⟩) ?_
      simp only [Act.put, List.setIfInBounds_toArray, List.set_cons_zero, List.set_cons_succ]
      refine held_step 4 rfl (by kernel_rfl) (fun K hK => ?_)
      go_simp
      go_at_call 62
      refine (bytes_any _ p F2 all h2d).mono ?_
      rintro e w3 ⟨rfl, rfl⟩
      go_wp2_with fail
      refine hK.out _ _ ⟨kd.cell d0 (by simp), kd.cell d1 (by simp)⟩ (fun hHeld => ?_)
      clear hK K
      refine held_take 7 (.string (strOf (all ++ data))) rfl (by kernel_rfl) (by kernel_rfl) (by kernel_rfl) (fun _ _ _ h => h) hHeld (Or.inl ⟨by rfl, fun w' hSw => exec_concat 9 9 (.tmp 26) (.tmp 28) rfl all data rfl (congrArg Value.string hbs.out.symm) (by omega) w'⟩) ?_
      simp only [Act.put, List.setIfInBounds_toArray, List.set_cons_zero, List.set_cons_succ]
      refine held_step 8 rfl (by kernel_rfl) (fun K hK => ?_)
      go_simp
      go_at_call 61
      refine (filled_any _ (all ++ data) (by simp; omega)).mono ?_
      rintro e w4 ⟨rfl, k4⟩
      go_wp2_with fail
      refine hK.out _ _ ⟨k4.cell (kd.cell d0 (by simp)) (by simp), k4.cell (kd.cell d1 (by simp)) (by simp)⟩ (fun hHeld => ?_)
      clear hK K
      have k24 : Only [] w2 w4 := kd.trans k4
      obtain ⟨H, hH⟩ : ∃ H, H = strOf (fillL (all ++ data)) := ⟨_, rfl⟩
      rw [← hH]
      replace hH := Lib.hid hH
      refine held_take 9 (.agg #[.int .i64 (41 + (a : Int)), .string H]) rfl (by kernel_rfl) (by kernel_rfl) (by kernel_rfl) (fun _ _ _ h => h) hHeld (Or.inl ⟨by rfl, fun w' hSw => by (try dsimp only at hSw); (try subst hSw); go_simp⟩) ?_
      simp only [Act.put, List.setIfInBounds_toArray, List.set_cons_zero, List.set_cons_succ]
      refine held_step 10 rfl (by kernel_rfl) (fun K hK => ?_)
      go_simp
      have k5 : Only [] w4 (w4.alloc (.cells #[.int .i64 (41 + (a : Int)), .string H] 100)) := (Only.refl [] w4).alloc _
      have news := World.news_of_block (Blk.new w4 100 #[.int .i64 (41 + (a : Int)), .string H])
      refine hK.out _ _ ⟨(k24.trans k5).cell d0 (by simp), (k24.trans k5).cell d1 (by simp)⟩ (fun hHeld => ?_)
      clear hK K
      have owna := ownsRow_kept' own2 (k24.trans k5) (by simp)
      have hone : ∀ u ∈ [Value.int .i64 (41 + (a : Int)), .string H], u.oneCell' = true := by
        intro u hu
        simp at hu
        rcases hu with rfl | rfl <;> rfl
      refine held_step 11 rfl (by kernel_rfl) (fun K hK => ?_)
      refine step_append_lies _ rfl (.tmp 22) (.tmp 32) 93 rfl 0 100 ti (.agg #[.int .i64 0, .string ⟨#[]⟩]) 2 24 Try.underlying93 ht1.out ht2.out ht3.out ht4.out rfl (by decide) vf k _ rfl owna ⟨w4.heap.size, 0, none⟩ 1 1 [.int .i64 (41 + (a : Int)), .string H] rfl rfl news hone (by decide) (by unfold maxLen; omega) (by omega) (Nat.zero_le _) _ rfl ?_
      intro g5 cp w5 hown5 hgrow hat5 hlt5
      have hg5 : w.heap.size ≤ g5 := by
        rcases hat5 with h | h
        · exact hnew.out g5 h
        · have := (k24.trans k5).size; have := k02.size; have := honly.size; omega
      have hqne : vf.ownBlock ≠ some q := fun h => by have := (hown2lt q h); omega
      have e0 : w5.cell? ⟨q, 0, none⟩ = some (.int .i64 (a : Int)) := (World.cell?_of_block (hgrow.block q (Nat.lt_of_lt_of_le hqV2 (k24.trans k5).size) (fun h => hqne h.symm))).trans ((k24.trans k5).cell d0 (by simp))
      have e1 : w5.cell? ⟨q, 1, none⟩ = some (.string bs) := (World.cell?_of_block (hgrow.block q (Nat.lt_of_lt_of_le hqV2 (k24.trans k5).size) (fun h => hqne h.symm))).trans ((k24.trans k5).cell d1 (by simp))
      refine hK.out _ _ ⟨e0, e1⟩ (fun hHeld => ?_)
      clear hK K
      simp only [Act.put, List.setIfInBounds_toArray, List.set_cons_zero, List.set_cons_succ]
      refine held_take 12 (.slice (some ⟨g5, 0, none⟩) (k + 1) cp) rfl (by kernel_rfl) (by kernel_rfl) (by kernel_rfl) (fun _ _ _ h => h) hHeld (Or.inl ⟨by rfl, fun w' hSw => by (try dsimp only at hSw); (try subst hSw); go_simp⟩) ?_
      simp only [Act.put, List.setIfInBounds_toArray, List.set_cons_zero, List.set_cons_succ]
      refine wpAnyH_done (by kernel_rfl) ?_ _
      clear hHeld
      have honly5 : Only [] w w5 := ((honly.trans k02).trans (k24.trans k5)).grown hgrow (fun j hj => .inr (hnew.out j hj))
      have hown6 : w5.ownsRow 0 100 2 (.slice (some ⟨g5, 0, none⟩) (k + 1) cp) (k + 1) (wkCells (homesOf n (l.take (k + 1)))) := by
        rw [hcp.out, wkCells_snoc, hhome.out, ← hH.out]
        exact hown5
      have hnew5 : Hid (∀ g, (Value.slice (some ⟨g5, 0, none⟩) (k + 1) cp).ownBlock = some g → w.heap.size ≤ g) := fun g hg => by
        simp only [Value.ownBlock, Option.some.injEq] at hg
        omega
      replace hown6 := Lib.hid hown6
      clear hown5 hgrow hat5 owna news k5 k24 k02 kd honly hnew c0 c1 d0 d1 e0 e1 own2 h2 h2d bq2 hF2
      go_wp2
      go_roundw
      case rel => exact ⟨k + 1, _, by omega, by go_num, rfl, hown6.out, honly5, hnew5⟩
      case measure => simp [intOf]; omega
    · have hkl : k = l.length := by omega
      have hge : (l.length : Int) ≤ k := by omega
      have hok : ∀ x ∈ homesOf n l, x.okay := by
        intro x hx
        simp only [homesOf, List.mem_map] at hx
        obtain ⟨y, hy, rfl⟩ := hx
        obtain ⟨y0, y1, y2⟩ := hgood y hy
        refine ⟨⟨by simp only; omega, by simp only; omega⟩, ?_⟩
        simp only [homeL_length n y y2]
        omega
      have hfin : NewList w wr vf (homesOf n l) := by
        refine blks_of_owns (e := 100) ?_ hok honly hnew.out
        rw [homesOf_length, ← hkl]
        rw [hkl, List.take_of_length_le (Nat.le_refl _)] at hown
        rw [hkl]
        exact hown
      replace hfin := Lib.hid hfin
      clear hown hok
      go_wp2
      go_ret
      exact ⟨_, rfl, hfin.out⟩

end Go.Proofs.Ytihoebmfanelkaa
