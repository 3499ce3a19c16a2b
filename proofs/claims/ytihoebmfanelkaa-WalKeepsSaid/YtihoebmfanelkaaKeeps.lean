/- WalKeeps: what is handed in is neither changed nor kept. -/
import Derived.Test.YtihoebmfanelkaaOrder
namespace Go.Proofs.Ytihoebmfanelkaa
open Go.RowKit

theorem wkCells_set : ∀ (l : List Bk) (k : Nat) (y : Bk), wkCells (l.set k y) = ((wkCells l).set (k * 2) (.int .i64 y.at_)).set (k * 2 + 1) (.string (strOf y.data))
  | [], k, y => by simp [wkCells]
  | x :: r, 0, y => by simp [wkCells]
  | x :: r, k + 1, y => by
    have ih := wkCells_set r k y
    have e1 : (k + 1) * 2 = k * 2 + 1 + 1 := by omega
    have hc : ∀ z t, wkCells (z :: t) = .int .i64 z.at_ :: .string (strOf z.data) :: wkCells t := fun z t => by simp [wkCells]
    rw [List.set_cons_succ, hc, hc, ih, e1]
    simp only [List.set_cons_succ]
theorem blks_own {w : World} {e : TypeId} {g cp : Nat} {l : List Bk} (h : w.ownsRow 0 e 2 (.slice (some ⟨g, 0, none⟩) l.length cp) l.length (wkCells l)) (hok : ∀ x ∈ l, x.okay) : Blks w (some ⟨g, 0, none⟩) l ∧ l.length ≤ cp := by
  refine ⟨⟨.inr ⟨g, 0, rfl, (h.lt g rfl).2, fun i hi => ?_⟩, hok⟩, ?_⟩
  · obtain ⟨r1, r2⟩ := wkCells_at l i l[i] (List.getElem?_eq_getElem hi)
    have q0 := h.cells rfl _ _ r1
    have q1 := h.cells rfl _ _ r2
    rw [addr_add, Nat.zero_add] at q0 q1
    rw [Nat.zero_add]
    exact ⟨q0, q1⟩
  · rcases h.2 with ⟨hv, _⟩ | ⟨_, _, _, hv, _, _, h1, _⟩
    · cases hv
    · injection hv with _ _ h3; omega
theorem fresh_data : dataS (fresh 46) = [rep 248 0, rep 248 0, rep 248 0, rep 248 0, rep 248 0] := by
  have h : ∀ j, j < 5 → (blkB (fresh 46) (41 + j)).drop 8 = rep 248 0 := fun j hj => by
    rw [fresh_blk 46 (41 + j) (by omega)]
    decide +kernel
  unfold dataS
  rw [fresh_firm]
  have e : ∀ j ∈ List.range (46 - 41), (blkB (fresh 46) (41 + j)).drop 8 = rep 248 0 := fun j hj => h j (by simpa using List.mem_range.1 hj)
  rw [List.map_congr_left e]
  rfl
theorem empty_whole : ((fillL []).take 256).take 248 = rep 248 0 := by decide +kernel

set_option maxRecDepth 100000 in
set_option maxHeartbeats 4000000 in
theorem walKeeps_walk (w : World) (A : Option Addr) (c : Nat) (l : List Bk) (more : ByteArray) (hA : Blks w A l) (hl : l.length ≤ 9223372036854775807) (hms : more.size ≤ 9223372036854775807) :
    Calls Try.prog 7 #[.slice A l.length c, .string more] w fun e w' => e = .returned (.bool true) ∧ Only [] w w' := by
  have halive := fun W => alive_any W
  have hr1 := fun W k => right5_any W A c l (hA.kept (S := []) k (by simp)) hl
  replace halive := Lib.hid halive
  replace hr1 := Lib.hid hr1
  replace hl := Lib.hid hl
  go_enter Try.func7, Try.ntmps7
  go_wp2_with fail
  refine (halive.out _).mono ?_
  rintro e w1 ⟨rfl, k1⟩
  go_wp2_with fail
  refine (hr1.out w1 k1).mono ?_
  rintro e w2 ⟨⟨r1, rfl, q1⟩, k2⟩
  have k12 := k1.trans k2
  clear k1 k2
  cases r1 with
  | false =>
    go_wp2_with fail
    refine (halive.out _).mono ?_
    rintro e w3 ⟨rfl, k3⟩
    have kend := k12.trans k3
    go_wp2
    go_ret
    exact ⟨rfl, kend⟩
  | true =>
  by_cases hbig : (200 : Int) < (more.size : Int)
  · have hdec : decide ((200 : Int) < (more.size : Int)) = true := decide_eq_true hbig
    replace hbig := Lib.hid hbig
    clear q1 hms
    go_wp2_with fail
    refine (halive.out _).mono ?_
    rintro e w3 ⟨rfl, k3⟩
    have kend := k12.trans k3
    go_wp2
    go_ret
    exact ⟨rfl, kend⟩
  have hrl := q1.1 rfl
  clear q1
  have hl1 := hrl.1
  have hl40 := hrl.2.1
  obtain ⟨g, o, rfl, hg, hat⟩ := hA.get (i := 0) (by omega)
  have hll : (l.length : Int) ≤ 40 := by omega
  have hnew := ownNew_any w w2 46 (by decide) (by decide) k12
  obtain ⟨e1, e2, e3⟩ := open_fresh 46 (by decide)
  have hlive := fresh_live 46
  have hflen := fresh_firm 46
  have hlate : (fresh 46).late.length = 0 := rfl
  have hfd := fresh_data
  generalize fresh 46 = s0 at *
  have hright : RightL l ((s0.firm.length : Int) - 41) := by rw [hflen]; exact hrl
  have hcd := dataS_commit (n := 0) hlive hright
  have u1 := commitW_live (n := 0) hlive hright
  rw [hfd] at hcd
  replace hnew := Lib.hid hnew
  replace hlive := Lib.hid hlive
  replace hflen := Lib.hid hflen
  replace hlate := Lib.hid hlate
  replace e1 := Lib.hid e1
  replace e2 := Lib.hid e2
  replace e3 := Lib.hid e3
  replace hright := Lib.hid hright
  replace hcd := Lib.hid hcd
  replace u1 := Lib.hid u1
  replace hrl := Lib.hid hrl
  replace hl1 := Lib.hid hl1
  replace hl40 := Lib.hid hl40
  replace hfd := Lib.hid hfd
  go_wp2_with fail
  refine hnew.out.mono ?_
  rintro e w3 ⟨p, F, rfl, hd3, _, _⟩
  go_wp2_with fail
  refine (hd3.opens e1.out (by have := hlate.out; omega)).mono ?_
  rintro e w4 ⟨lp, F4, rfl, h4, _, _, _⟩
  rw [e2.out, e3.out] at h4
  have hww4 := h4.only.size
  clear hd3 k12
  have hb5 : (w4.alloc (.cells #[] 64)).ownsRow 0 64 2 (.slice (some ⟨w4.heap.size, 0, none⟩) 0 0) 0 (wkCells []) := World.ownsRow_made w4 #[] 0 (Nat.zero_le _) (by decide) rfl
  have k5 : Only [] w4 (w4.alloc (.cells #[] 64)) := (Only.refl [] w4).alloc _
  have h5 := h4.keep k5
  go_wp2_with (at_builtin; go_must (refine wpList_append_blks _ rfl (.tmp 30) (.tmp 31) 37 rfl 64 (.agg #[.int .i64 0, .string ⟨#[]⟩]) 24 Try.underlying37 zero_ablock rfl (.slice (some ⟨w4.heap.size, 0, none⟩) 0 0) 0 [] rfl hb5 g o l.length c l rfl rfl (hat.kept h5.only (by simp)) ?c1 ?c2 ?go))
  case c1 => unfold maxLen; have := hl40.out; omega
  case c2 => have := hl40.out; omega
  case go =>
  intro v6 w6 hown6 hg6 hat6
  have k46 : Only [] w4 w6 := k5.grown hg6 (fun j hj => by simp only [Value.ownBlock, Option.some.injEq] at hj; exact .inr (by omega))
  have hnew6 : ∀ j, v6.ownBlock = some j → w4.heap.size ≤ j := fun j hj => by
    rcases hat6 with h | h
    · rw [h] at hj; simp only [Value.ownBlock, Option.some.injEq] at hj; omega
    · rw [h] at hj; injection hj with hj; have := k5.size; omega
  have h6 := h4.keep k46
  obtain ⟨g6, cp6, rfl, _, _⟩ := hown6.form (by have := hl1.out; omega)
  have hg6w := hnew6 g6 rfl
  have hg6l := (hown6.lt g6 rfl).2
  clear hg6 hat6 hnew6 hb5 k5 h5
  have hb7 : (w6.alloc (.cells #[] 64)).ownsRow 0 64 2 (.slice (some ⟨w6.heap.size, 0, none⟩) 0 0) 0 (wkCells []) := World.ownsRow_made w6 #[] 0 (Nat.zero_le _) (by decide) rfl
  have k7 : Only [] w6 (w6.alloc (.cells #[] 64)) := (Only.refl [] w6).alloc _
  have h7 := h6.keep k7
  go_wp2_with (at_builtin; go_must (refine wpList_append_blks _ rfl (.tmp 33) (.tmp 34) 37 rfl 64 (.agg #[.int .i64 0, .string ⟨#[]⟩]) 24 Try.underlying37 zero_ablock rfl (.slice (some ⟨w6.heap.size, 0, none⟩) 0 0) 0 [] rfl hb7 g o l.length c l rfl rfl (hat.kept h7.only (by simp)) ?d1 ?d2 ?go2))
  case d1 => unfold maxLen; have := hl40.out; omega
  case d2 => have := hl40.out; omega
  case go2 =>
  intro v8 w8 hown8 hg8 hat8
  have k68 : Only [] w6 w8 := k7.grown hg8 (fun j hj => by simp only [Value.ownBlock, Option.some.injEq] at hj; exact .inr (by omega))
  have hnew8 : ∀ j, v8.ownBlock = some j → w6.heap.size ≤ j := fun j hj => by
    rcases hat8 with h | h
    · rw [h] at hj; simp only [Value.ownBlock, Option.some.injEq] at hj; omega
    · rw [h] at hj; injection hj with hj; have := k7.size; omega
  have h8 := h6.keep k68
  have hown6' := ownsRow_kept' hown6 k68 (by simp)
  clear hg8 hat8 hb7 k7 h7 h6 hown6
  obtain ⟨Aw, cw, hv8, hblw, _, hneww⟩ := blks_of_owns hown8 hA.2 k68 hnew8
  subst hv8
  obtain ⟨gw, ow, rfl, hgw, _⟩ := hblw.get (i := 0) (by have := hl1.out; omega)
  have hgw0 := hneww _ rfl
  have hg6F : g6 ∉ lp :: F4 := fun hm => by
    rcases List.mem_cons.1 hm with h | h
    · have := h4.lt; omega
    · have := (h4.new _ h).2; omega
  have hgwF : gw ∉ lp :: F4 := fun hm => by
    have := k46.size
    simp only at hgw0
    rcases List.mem_cons.1 hm with h | h
    · have := h4.lt; omega
    · have := (h4.new _ h).2; omega
  have hgw6 : gw ≠ g6 := by simp only at hgw0; omega
  obtain ⟨hbl6, hcp6⟩ := blks_own hown6' hA.2
  replace hneww := Lib.hid hneww
  clear hown8 hnew8 h4
  go_wp2_with fail
  refine (h8.commit (some ⟨g6, 0, none⟩) cp6 l (by decide) hbl6 hl.out hcp6 (by have := hlate.out; omega)).mono ?_
  rintro e w9 ⟨x1, s1, n1, f1, F9, rfl, hc1, h9, k9, hF9⟩
  obtain ⟨rfl, rfl, rfl, rfl⟩ := commits_live hlive.out hright.out (by decide) hc1
  have hown9 := ownsRow_kept' hown6' k9 (fun j hj => by simp only [Value.ownBlock, Option.some.injEq] at hj; subst hj; exact hg6F)
  have hblw9 := hblw.kept k9 (fun a ha => by injection ha with ha; subst ha; exact hgwF)
  have hg6F9 : g6 ∉ lp :: F9 := fun hm => by
    rcases List.mem_cons.1 hm with h | h
    · exact hg6F (by simp [h])
    · exact away hF9 (fun h' => hg6F (by simp [h'])) (Nat.lt_of_lt_of_le hg6l k68.size) h
  replace hc1 := Lib.hid hc1
  clear h8 hown6' hblw hbl6 k9
  go_wp2_with fail
  go_loopw [10] (fun i wr => ∃ (k : Nat) (cur : List Bk), k ≤ l.length ∧ i = .int .i64 k ∧ cur.length = l.length ∧ Hid (∀ j, k ≤ j → cur[j]? = l[j]?) ∧ wr.ownsRow 0 64 2 (.slice (some ⟨g6, 0, none⟩) l.length cp6) l.length (wkCells cur) ∧ Only [g6] w9 wr) (fun i _ => l.length - (intOf i).toNat)
  case atStart => exact ⟨0, l, Nat.zero_le _, rfl, rfl, fun _ _ => rfl, hown9, Only.refl _ _⟩
  case round =>
    clear hown9
    obtain ⟨k, cur, hk, rfl, hcl, hcur, hown, honly⟩ := hrel
    by_cases hlt : k < l.length
    · have hx : l[k]? = some l[k] := List.getElem?_eq_getElem hlt
      have hcx : cur[k]? = some l[k] := by rw [hcur.out k (Nat.le_refl _)]; exact hx
      obtain ⟨r1, r2⟩ := wkCells_at cur k _ hcx
      have c0 := hown.cells rfl _ _ r1
      have c1 := hown.cells rfl _ _ r2
      rw [addr_add, Nat.zero_add] at c0 c1
      obtain ⟨gw', ow', hgg, _, hatw⟩ := hblw9.get hlt
      injection hgg with hgg
      injection hgg with hgg1 hgg2
      subst hgg1
      subst hgg2
      have d0 := honly.cell (hatw k hlt).1 (by simpa using hgw6)
      have d1 := honly.cell (hatw k hlt).2 (by simpa using hgw6)
      have hok := (hA.2 l[k] (List.getElem_mem hlt)).1
      generalize l[k] = x at *
      obtain ⟨at_, data⟩ := x
      simp only at c0 c1 d0 d1 hok
      generalize strOf data = bs at *
      have hf0 := ownsRow_free hown (k * 2)
      have hf1 := ownsRow_free hown (k * 2 + 1)
      clear r1 r2 hx hcx
      go_wp2
      go_quiet (fail)
      go_wp2
      go_roundw
      have kq : Only [] wr (wr.drewN nq) := (Only.refl [] wr).drewN nq
      have hown2 := ownsRow_set (i := k * 2 + 1) (ownsRow_set (i := k * 2) (ownsRow_kept' hown kq (by simp)) (.int .i64 (wrap64 (4 - at_)))) (.string more)
      case rel =>
        refine ⟨k + 1, cur.set k ⟨wrap64 (4 - at_), more.data.toList⟩, by omega, by go_num, by simp [hcl], fun j hj => ?_, ?_, ?_⟩
        · rw [List.getElem?_set, if_neg (by omega)]
          exact hcur.out j (by omega)
        · rw [wkCells_set, strOf_toList]
          exact hown2
        · exact ((honly.trans (kq.more (by simp))).setCell (.inl (by simp)) _).setCell (.inl (by simp)) _
      case measure => simp [intOf]; omega
    · have hge : (l.length : Int) ≤ k := by omega
      have kwr : Only [] w wr := h9.only.then honly (fun i hi => by
        simp only [List.mem_singleton] at hi
        subst hi
        exact .inr (by omega))
      have h10 := h9.beside honly kwr (fun i hi => by simp only [List.mem_singleton] at hi; subst hi; exact hg6F9)
      have hblw10 := hblw9.kept honly (fun a ha => by injection ha with ha; subst ha; simpa using hgw6)
      obtain ⟨_, ⟨a2, _⟩, _, a4, _⟩ := u1.out
      generalize (commitW s0 0 l).2 = s1 at *
      have hwhole : ∀ W, Calls Try.prog 26 #[.string ⟨#[]⟩] W fun e w' => e = .returned (.string (strOf ((fillL []).take 256))) ∧ w' = W := fun W => whole_any W [] (by decide)
      have hcut := upto_strOf (P := Try.prog) 9 Try.underlying9 ((fillL []).take 256) 248 248 .i64 rfl (by decide +kernel)
      rw [empty_whole] at hcut
      have hZ : ∀ i, i < 5 → ([rep 248 0, rep 248 0, rep 248 0, rep 248 0, rep 248 0] : List (List UInt8))[i]? = some (rep 248 0) := fun i hi => by
        have hall : ∀ i : Fin 5, ([rep 248 0, rep 248 0, rep 248 0, rep 248 0, rep 248 0] : List (List UInt8))[i.val]? = some (rep 248 0) := fun i => by
          match i with
          | 0 => rfl
          | 1 => rfl
          | 2 => rfl
          | 3 => rfl
          | 4 => rfl
        exact hall ⟨i, hi⟩
      generalize strOf ((fillL []).take 256) = Z2 at *
      generalize hZ2 : strOf (rep 248 0) = Z at *
      replace hwhole := Lib.hid hwhole
      clear hown honly h9 hblw9
      go_wp2_with fail
      refine (datas_any wr lp p 1 F9 s1 h10.log h10.dev a2 (by have := hflen.out; omega)).mono ?_
      rintro e w11 ⟨v11, rfl, A11, c11, rfl, hs11, k11, _⟩
      have h11 := h10.keep k11
      have hblw11 := hblw10.kept k11 (by simp)
      clear h10 hblw10
      go_wp2_with fail
      have kd : Only [] w11 w11.drew := (Only.refl [] w11).drew
      refine wp_region_held_drew (S := fun w' => True) (by kernel_rfl) trivial (fun hHeld => ?_)
      refine held_step 0 rfl (by kernel_rfl) (fun K hK => ?_)
      go_simp
      go_at_call 8
      refine (halive.out _).mono ?_
      rintro e w12 ⟨rfl, k12⟩
      go_wp2_with fail
      refine hK.out _ _ trivial (fun hHeld => ?_)
      clear hK K
      refine held_take 1 (.bool true) rfl (by kernel_rfl) (by kernel_rfl) (by kernel_rfl) (fun _ _ _ h => h) hHeld (Or.inl ⟨by rfl, fun w' hSw => by (try dsimp only at hSw); (try subst hSw); go_simp⟩) ?_
      simp only [Act.put, List.setIfInBounds_toArray, List.set_cons_zero, List.set_cons_succ]
      refine held_take 2 (.bool true) rfl (by kernel_rfl) (by kernel_rfl) (by kernel_rfl) (fun _ _ _ h => h) hHeld (Or.inl ⟨by rfl, fun w' hSw => by (try dsimp only at hSw); (try subst hSw); go_simp⟩) ?_
      simp only [Act.put, List.setIfInBounds_toArray, List.set_cons_zero, List.set_cons_succ]
      refine held_take 3 (.bool true) rfl (by kernel_rfl) (by kernel_rfl) (by kernel_rfl) (fun _ _ _ h => h) hHeld (Or.inl ⟨by rfl, fun w' hSw => by (try dsimp only at hSw); (try subst hSw); go_simp⟩) ?_
      simp only [Act.put, List.setIfInBounds_toArray, List.set_cons_zero, List.set_cons_succ]
      refine held_take 4 (.bool true) rfl (by kernel_rfl) (by kernel_rfl) (by kernel_rfl) (fun _ _ _ h => h) hHeld (Or.inl ⟨by rfl, fun w' hSw => by (try dsimp only at hSw); (try subst hSw); go_simp⟩) ?_
      simp only [Act.put, List.setIfInBounds_toArray, List.set_cons_zero, List.set_cons_succ]
      refine held_take 5 (.slice A11 (dataS s1).length c11) rfl (by kernel_rfl) (by kernel_rfl) (by kernel_rfl) (fun _ _ _ h => h) hHeld (Or.inl ⟨by rfl, fun w' hSw => by (try dsimp only at hSw); (try subst hSw); go_simp⟩) ?_
      simp only [Act.put, List.setIfInBounds_toArray, List.set_cons_zero, List.set_cons_succ]
      refine held_take 17 (.slice (some ⟨gw, ow, none⟩) l.length cw) rfl (by kernel_rfl) (by kernel_rfl) (by kernel_rfl) (fun _ _ _ h => h) hHeld (Or.inl ⟨by rfl, fun w' hSw => by (try dsimp only at hSw); (try subst hSw); go_simp⟩) ?_
      simp only [Act.put, List.setIfInBounds_toArray, List.set_cons_zero, List.set_cons_succ]
      refine held_step 6 rfl (by kernel_rfl) (fun K hK => ?_)
      go_simp
      go_at_call 26
      refine (hwhole.out _).mono ?_
      rintro e w13 ⟨rfl, rfl⟩
      go_wp2_with fail
      refine hK.out _ _ trivial (fun hHeld => ?_)
      clear hK K
      refine held_take 7 (.string Z) rfl (by kernel_rfl) (by kernel_rfl) (by kernel_rfl) (fun _ _ _ h => h) hHeld (Or.inl ⟨by rfl, fun w' hSw => by (try dsimp only at hSw); (try subst hSw); go_simp⟩) ?_
      simp only [Act.put, List.setIfInBounds_toArray, List.set_cons_zero, List.set_cons_succ]
      refine held_step 8 rfl (by kernel_rfl) (fun K hK => ?_)
      go_simp
      go_at_call 26
      refine (hwhole.out _).mono ?_
      rintro e w14 ⟨rfl, rfl⟩
      go_wp2_with fail
      refine hK.out _ _ trivial (fun hHeld => ?_)
      clear hK K
      refine held_take 9 (.string Z) rfl (by kernel_rfl) (by kernel_rfl) (by kernel_rfl) (fun _ _ _ h => h) hHeld (Or.inl ⟨by rfl, fun w' hSw => by (try dsimp only at hSw); (try subst hSw); go_simp⟩) ?_
      simp only [Act.put, List.setIfInBounds_toArray, List.set_cons_zero, List.set_cons_succ]
      refine held_step 10 rfl (by kernel_rfl) (fun K hK => ?_)
      go_simp
      go_at_call 26
      refine (hwhole.out _).mono ?_
      rintro e w15 ⟨rfl, rfl⟩
      go_wp2_with fail
      refine hK.out _ _ trivial (fun hHeld => ?_)
      clear hK K
      refine held_take 11 (.string Z) rfl (by kernel_rfl) (by kernel_rfl) (by kernel_rfl) (fun _ _ _ h => h) hHeld (Or.inl ⟨by rfl, fun w' hSw => by (try dsimp only at hSw); (try subst hSw); go_simp⟩) ?_
      simp only [Act.put, List.setIfInBounds_toArray, List.set_cons_zero, List.set_cons_succ]
      refine held_step 12 rfl (by kernel_rfl) (fun K hK => ?_)
      go_simp
      go_at_call 26
      refine (hwhole.out _).mono ?_
      rintro e w16 ⟨rfl, rfl⟩
      go_wp2_with fail
      refine hK.out _ _ trivial (fun hHeld => ?_)
      clear hK K
      refine held_take 13 (.string Z) rfl (by kernel_rfl) (by kernel_rfl) (by kernel_rfl) (fun _ _ _ h => h) hHeld (Or.inl ⟨by rfl, fun w' hSw => by (try dsimp only at hSw); (try subst hSw); go_simp⟩) ?_
      simp only [Act.put, List.setIfInBounds_toArray, List.set_cons_zero, List.set_cons_succ]
      refine held_step 14 rfl (by kernel_rfl) (fun K hK => ?_)
      go_simp
      go_at_call 26
      refine (hwhole.out _).mono ?_
      rintro e w17 ⟨rfl, rfl⟩
      go_wp2_with fail
      refine hK.out _ _ trivial (fun hHeld => ?_)
      clear hK K
      refine held_take 15 (.string Z) rfl (by kernel_rfl) (by kernel_rfl) (by kernel_rfl) (fun _ _ _ h => h) hHeld (Or.inl ⟨by rfl, fun w' hSw => by (try dsimp only at hSw); (try subst hSw); go_simp⟩) ?_
      simp only [Act.put, List.setIfInBounds_toArray, List.set_cons_zero, List.set_cons_succ]
      refine held_step 16 rfl (by kernel_rfl) (fun K hK => ?_)
      go_simp
      have ka : Only [] w17 (w17.alloc (.cells #[.string Z, .string Z, .string Z, .string Z, .string Z] 9)) := (Only.refl [] w17).alloc _
      have ba : Blk (w17.alloc (.cells #[.string Z, .string Z, .string Z, .string Z, .string Z] 9)) w17.heap.size 9 #[.string Z, .string Z, .string Z, .string Z, .string Z] := Blk.new _ _ _
      have hstr : Strs (w17.alloc (.cells #[.string Z, .string Z, .string Z, .string Z, .string Z] 9)) (some ⟨w17.heap.size, 0, none⟩) [rep 248 0, rep 248 0, rep 248 0, rep 248 0, rep 248 0] := by
        refine .inr ⟨_, 0, rfl, ba.lt, fun i hi => ?_⟩
        have hi5 : i < 5 := by simpa using hi
        have hz := hZ i hi5
        rw [List.getElem?_eq_getElem hi] at hz
        injection hz with hz
        rw [hz, hZ2, Nat.zero_add, ba.cell i]
        have hall : ∀ i : Fin 5, (#[Value.string Z, .string Z, .string Z, .string Z, .string Z] : Array Value)[i.val]? = some (.string Z) := fun i => by
          match i with
          | 0 => rfl
          | 1 => rfl
          | 2 => rfl
          | 3 => rfl
          | 4 => rfl
        exact hall ⟨i, hi5⟩
      have k0a := ((h11.only.trans kd).trans k12).trans ka
      have hblwa := ((hblw11.kept kd (by simp)).kept k12 (by simp)).kept ka (by simp)
      have hs11a := ((hs11.kept kd (by simp)).kept k12 (by simp)).kept ka (by simp)
      refine hK.out _ _ trivial (fun hHeld => ?_)
      clear hK K
      have haft := after_any _ (some ⟨w17.heap.size, 0, none⟩) (some ⟨gw, ow, none⟩) 5 cw [rep 248 0, rep 248 0, rep 248 0, rep 248 0, rep 248 0] l hstr hblwa (by simp) (by have := hl40.out; omega) (fun x hx => by
        have := right_all hright.out x hx
        have := hflen.out
        simp only [List.length_cons, List.length_nil]
        omega)
      refine held_step 18 rfl (by kernel_rfl) (fun K hK => ?_)
      go_simp
      go_at_call 24
      refine haft.mono ?_
      rintro e w18 ⟨v18, rfl, A18, c18, rfl, hs18, k18, _⟩
      go_wp2_with fail
      refine hK.out _ _ trivial (fun hHeld => ?_)
      clear hK K
      have hsm := same_any w18 A11 A18 c11 c18 (dataS s1) _ (hs11a.kept k18 (by simp)) hs18 (by rw [dataS_length]; have := hflen.out; omega)
      refine held_step 19 rfl (by kernel_rfl) (fun K hK => ?_)
      go_simp
      go_at_call 23
      refine hsm.mono ?_
      rintro e w19 ⟨⟨r5, rfl, q5⟩, k19⟩
      obtain rfl : r5 = true := q5.2 hcd.out
      go_wp2_with fail
      refine hK.out _ _ trivial (fun hHeld => ?_)
      clear hK K
      refine held_take 20 (.bool true) rfl (by kernel_rfl) (by kernel_rfl) (by kernel_rfl) (fun _ _ _ h => h) hHeld (Or.inl ⟨by rfl, fun w' hSw => by first | rfl | (go_simp; rfl) | (go_simp; simp [Result.andThen])⟩) ?_
      simp only [Act.put, List.setIfInBounds_toArray, List.set_cons_zero, List.set_cons_succ]
      refine held_take 21 (.bool true) rfl (by kernel_rfl) (by kernel_rfl) (by kernel_rfl) (fun _ _ _ h => h) hHeld (Or.inl ⟨by rfl, fun w' hSw => by first | rfl | (go_simp; rfl) | (go_simp; simp [Result.andThen])⟩) ?_
      simp only [Act.put, List.setIfInBounds_toArray, List.set_cons_zero, List.set_cons_succ]
      refine wpAnyH_done (by kernel_rfl) ?_ _
      clear hHeld
      have kend := (k0a.trans k18).trans k19
      clear hsm haft q5 hs18 hs11a hblwa k0a hstr ba ka
      go_wp2
      go_ret
      exact ⟨rfl, kend⟩

end Go.Proofs.Ytihoebmfanelkaa
