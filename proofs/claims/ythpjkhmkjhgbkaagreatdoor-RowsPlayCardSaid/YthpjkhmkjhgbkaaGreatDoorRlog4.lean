/- The document's log: the steps of a commit. -/
import Derived.Test.YthpjkhmkjhgbkaaGreatDoorRlog3
namespace Go.Proofs.YthpjkhmkjhgbkaaGreatDoor
open Go.RowKit

def copyOf (n : Nat) (i : Nat) (x : Bk) : Bk := ⟨(1 + i : Nat), homeL n x⟩
theorem copies_drop (n : Nat) (l : List Bk) (j : Nat) (h : j < l.length) : (copiesOf (homesOf n l)).drop j = copyOf n j l[j] :: (copiesOf (homesOf n l)).drop (j + 1) := by
  have hl : j < (copiesOf (homesOf n l)).length := by rw [copiesOf_length, homesOf_length]; exact h
  rw [List.drop_eq_getElem_cons hl]
  congr 1
  simp [copiesOf, homesOf, copyOf]
theorem homes_drop (n : Nat) (l : List Bk) (j : Nat) (h : j < l.length) : (homesOf n l).drop j = ⟨41 + l[j].at_, homeL n l[j]⟩ :: (homesOf n l).drop (j + 1) := by
  have hl : j < (homesOf n l).length := by rw [homesOf_length]; exact h
  rw [List.drop_eq_getElem_cons hl]
  congr 1
  simp [homesOf]
def homeTexts (n : Nat) (l : List Bk) : List (List UInt8) := l.map fun x => homeL n x
theorem homeTexts_take (n : Nat) (l : List Bk) (k : Nat) (h : k < l.length) : homeTexts n (l.take (k + 1)) = homeTexts n (l.take k) ++ [homeL n l[k]] := by
  rw [List.take_succ_eq_append_getElem h, homeTexts, List.map_append]
  rfl
theorem RefDid.trans' {w w1 w2 : World} {p : Nat} {G G1 : List Nat} {t : St} (h : Only G w w1) (hG1 : Hid (∀ i ∈ G1, (i ∈ G ∨ w.heap.size ≤ i) ∧ i < w1.heap.size)) (k : RefDid w1 w2 p G1 t) : RefDid w w2 p G t := by
  obtain ⟨G2, h1, h2, h3⟩ := k
  refine ⟨G2, h1, h.then h2 (fun i hi => (hG1.out i hi).1), fun j hj => ⟨?_, (h3 j hj).2⟩⟩
  rcases (h3 j hj).1 with h' | h'
  · exact (hG1.out j h').1
  · exact .inr (Nat.le_trans h.size h')

set_option maxRecDepth 100000 in
set_option maxHeartbeats 4000000 in
theorem rsteps_any (w : World) (lp p n : Nat) (G : List Nat) (s : St) (A : Option Addr) (c : Nat) (l : List Bk) (hn : n + 1 < 4294967296) (h : RLogB w lp p n false) (hd : Ref w p G s) (hlp : lp ∉ G) (hb : Blks w A l) (hA : ∀ a, A = some a → a.block ∉ G) (hr : RightL l ((s.firm.length : Int) - 41)) (hlate : s.late.length + 200 ≤ 1048576) :
    Calls Tryz.prog 95 #[.pointer (some ⟨lp, 0, none⟩), .slice A l.length c] w fun e w' => e = .returned (.bool (decide ((commitW s n l).1 = 0))) ∧ RefDid w w' p G (commitW s n l).2 := by
  obtain ⟨G0, hd0, hsub, hG0⟩ := hd.trim
  refine Calls.mono (R := fun e w' => e = .returned (.bool (decide ((commitW s n l).1 = 0))) ∧ RefDid w w' p G0 (commitW s n l).2) ?_ (fun e w' h => ⟨h.1, h.2.mono hsub⟩)
  have hlp0 : lp ∉ G0 := fun hm => hlp (hsub _ hm)
  have hA0 : ∀ a, A = some a → a.block ∉ G0 := fun a ha hm => hA a ha (hsub _ hm)
  clear hd hlp hA hsub G
  rename List Nat => G
  rename Ref w p G s => hd
  obtain ⟨l0, l1, _⟩ := h.cells
  have hall := right_all hr
  have hN := right_size hr
  have hl1 := hr.1
  have hl40 := hr.2.1
  have hlpw := Blk.lt h
  obtain ⟨z, hz⟩ : ∃ z : Int, z = (n : Int) := ⟨_, rfl⟩
  rw [← hz] at l1
  have hz0 : 0 ≤ z := by omega
  have hz1 : z < 4294967295 := by omega
  have hzz : IntKind.u32.wrap (z + 1) = z + 1 := by rw [IntKind.wrap_u32]; omega
  have hz2 : z + 1 = ((n + 1 : Nat) : Int) := by omega
  have hnum := fun W => fnumber_any W (z + 1) (n + 1) hz2 hn
  have hclen : (copiesOf (homesOf (n + 1) l)).length = l.length := by rw [copiesOf_length, homesOf_length]
  have hhlen := homesOf_length (n + 1) l
  have hthere := there_copies (n := n + 1) hr
  have hthereh := there_homes (n := n + 1) hr
  obtain ⟨ti, ht1, ht2, ht3, ht4⟩ := info_parts info_text
  replace ht1 := Lib.hid ht1
  replace ht2 := Lib.hid ht2
  replace ht3 := Lib.hid ht3
  replace ht4 := Lib.hid ht4
  have hll : (l.length : Int) ≤ 40 := by omega
  replace hn := Lib.hid hn
  replace hz := Lib.hid hz
  replace hz2 := Lib.hid hz2
  replace hnum := Lib.hid hnum
  replace hall := Lib.hid hall
  replace hr := Lib.hid hr
  replace hclen := Lib.hid hclen
  replace hhlen := Lib.hid hhlen
  replace hthere := Lib.hid hthere
  replace hthereh := Lib.hid hthereh
  replace hG0 := Lib.hid hG0
  replace hA0 := Lib.hid hA0
  go_enter Tryz.func95, Tryz.ntmps95
  go_wp2_with fail
  go_loopw [6, 7] (fun v i wr => ∃ (j : Nat) (sj : St) (Gj : List Nat) (vf : Value), j ≤ l.length ∧ i = .int .i64 (j : Int) ∧ vf = v ∧ Hid (settleW s (copiesOf (homesOf (n + 1) l)) = settleW sj ((copiesOf (homesOf (n + 1) l)).drop j)) ∧ sj.firm = s.firm ∧ sj.late.length ≤ s.late.length + j ∧ Ref wr p Gj sj ∧ Only G w wr ∧ Hid (∀ i ∈ Gj, (i ∈ G ∨ w.heap.size ≤ i) ∧ i < wr.heap.size) ∧ wr.ownsRow 0 9 1 vf j (strCells (homeTexts (n + 1) (l.take j))) ∧ Hid (∀ g, vf.ownBlock = some g → w.heap.size ≤ g ∧ g ∉ Gj)) (fun _ i _ => l.length - (intOf i).toNat)
  case atStart => exact ⟨0, s, G, _, Nat.zero_le _, rfl, rfl, by rw [List.drop_zero]; exact rfl, rfl, by omega, hd, Only.refl _ _, fun i hi => ⟨.inl hi, hG0.out i hi⟩, World.ownsRow_nil _ 0 _ 1, fun g hg => by simp [Value.ownBlock] at hg⟩
  case round =>
    obtain ⟨j, sj, Gj, vf, hj, rfl, hvf, hset, hfirm, hlatej, hdj, honly, hGj, hown, hnew⟩ := hrel
    subst hvf
    by_cases hlt : j < l.length
    · obtain ⟨g, o, rfl, hg, hat⟩ := hb.get hlt
      have hgG : g ∉ G := hA0.out _ rfl
      have c0 := honly.cell (hat j hlt).1 hgG
      have c1 := honly.cell (hat j hlt).2 hgG
      have hx := hall.out l[j] (List.getElem_mem hlt)
      have hth : There s.firm.length ⟨((1 + j : Nat) : Int), homeL (n + 1) l[j]⟩ := hthere.out _ (by
        have h1 := copies_drop (n + 1) l j hlt
        exact List.mem_of_mem_drop (h1 ▸ List.mem_cons_self))
      have hset2 : settleW s (copiesOf (homesOf (n + 1) l)) = if writeErr sj ((1 + j : Nat) : Int) (homeL (n + 1) l[j]) = 0 then settleW (written sj ((1 + j : Nat) : Int) (homeL (n + 1) l[j])) ((copiesOf (homesOf (n + 1) l)).drop (j + 1)) else (writeErr sj ((1 + j : Nat) : Int) (homeL (n + 1) l[j]), written sj ((1 + j : Nat) : Int) (homeL (n + 1) l[j])) := by
        rw [hset.out, copies_drop (n + 1) l j hlt, settleW]
        rfl
      have hcp := homeTexts_take (n + 1) l j hlt
      have hhl : (homeL (n + 1) l[j]).length = 256 := homeL_length _ _ hx.2
      have hfill : homeL (n + 1) l[j] = fillL (be4 (41 + l[j].at_.toNat) ++ be4 (n + 1) ++ l[j].data) := rfl
      generalize l[j] = x at *
      obtain ⟨at_, data⟩ := x
      simp only at c0 c1 hx hfill
      obtain ⟨⟨x0, x1⟩, x2⟩ := hx
      obtain ⟨a, rfl⟩ := Int.eq_ofNat_of_zero_le x0
      rw [Int.toNat_natCast] at hfill
      have hfew := hdj.fine.few
      have haI : (a : Int) ≤ 1048576 := by rw [hfirm] at hfew; omega
      have hnum1 := fun W => fnumber_any W (41 + (a : Int)) (41 + a) (by omega) (by omega)
      have hfil := fun W => fill_any W (be4 (41 + a) ++ be4 (n + 1) ++ data) (by simp [be4_length]; omega)
      rw [← hfill] at hfil
      obtain ⟨HL, hHL⟩ : ∃ HL, HL = homeL (n + 1) ⟨(a : Int), data⟩ := ⟨_, rfl⟩
      rw [← hHL] at hset2 hth hcp hhl hfill hfil
      replace hHL := Lib.hid hHL
      generalize hbs : strOf data = bs at *
      have hlen1 : (be4 (41 + a) ++ be4 (n + 1)).length = 8 := rfl
      generalize hall8 : be4 (41 + a) ++ be4 (n + 1) = a8 at *
      generalize hH : strOf HL = H at *
      replace hH := Lib.hid hH
      replace hbs := Lib.hid hbs
      replace hall8 := Lib.hid hall8
      replace hlen1 := Lib.hid hlen1
      replace hnum1 := Lib.hid hnum1
      replace hfil := Lib.hid hfil
      replace hcp := Lib.hid hcp
      replace hset2 := Lib.hid hset2
      replace hth := Lib.hid hth
      replace hfill := Lib.hid hfill
      replace hhl := Lib.hid hhl
      replace hset := Lib.hid hset
      have hw41' : IntKind.i64.wrap (41 + (a : Int)) = 41 + (a : Int) := by rw [IntKind.wrap_i64]; omega
      have hu41 : IntKind.u32.wrap (41 + (a : Int)) = 41 + (a : Int) := by clear hw41'; rw [IntKind.wrap_u32]; omega
      have kd : Only [] wr wr.drew := (Only.refl [] wr).drew
      have c0d := kd.cell c0 (by simp)
      have c1d := kd.cell c1 (by simp)
      go_wp2_with fail
      refine wp_region_held_drew (S := fun w' => w'.cell? ⟨g, o + j * 2, none⟩ = some (.int .i64 (a : Int)) ∧ w'.cell? ⟨g, o + j * 2 + 1, none⟩ = some (.string bs)) (by kernel_rfl) ⟨c0d, c1d⟩ (fun hHeld => ?_)
      refine held_take 0 (.slice (some ⟨g, o, none⟩) l.length c) rfl (by kernel_rfl) (by kernel_rfl) (by kernel_rfl) (fun _ _ _ h => h) hHeld (Or.inl ⟨by rfl, fun w' hSw => by (try dsimp only at hSw); (try subst hSw); go_simp⟩) ?_
      simp only [Act.put, List.setIfInBounds_toArray, List.set_cons_zero, List.set_cons_succ]
      refine held_take 1 (.int .i64 (j : Int)) rfl (by kernel_rfl) (by kernel_rfl) (by kernel_rfl) (fun _ _ _ h => h) hHeld (Or.inl ⟨by rfl, fun w' hSw => by (try dsimp only at hSw); (try subst hSw); go_simp⟩) ?_
      simp only [Act.put, List.setIfInBounds_toArray, List.set_cons_zero, List.set_cons_succ]
      refine held_take 2 (.pointer (some ⟨g, o + j * 2, none⟩)) rfl (by kernel_rfl) (by kernel_rfl) (by kernel_rfl) (fun _ _ _ h => h) hHeld (Or.inl ⟨by rfl, fun w' hSw => by (try dsimp only at hSw); (try subst hSw); go_simp⟩) ?_
      simp only [Act.put, List.setIfInBounds_toArray, List.set_cons_zero, List.set_cons_succ]
      refine held_take 3 (.pointer (some ⟨g, o + j * 2, none⟩)) rfl (by kernel_rfl) (by kernel_rfl) (by kernel_rfl) (fun _ _ _ h => h) hHeld (Or.inl ⟨by rfl, fun w' hSw => by (try dsimp only at hSw); (try subst hSw); go_simp⟩) ?_
      simp only [Act.put, List.setIfInBounds_toArray, List.set_cons_zero, List.set_cons_succ]
      refine held_take 4 (.int .i64 (a : Int)) rfl (by kernel_rfl) (by kernel_rfl) (by kernel_rfl) (fun _ _ _ h => h) hHeld (Or.inl ⟨by rfl, fun w' hSw => by (try dsimp only at hSw); (try subst hSw); go_simp⟩) ?_
      simp only [Act.put, List.setIfInBounds_toArray, List.set_cons_zero, List.set_cons_succ]
      refine held_take 5 (.int .i64 (41 + (a : Int))) rfl (by kernel_rfl) (by kernel_rfl) (by kernel_rfl) (fun _ _ _ h => h) hHeld (Or.inl ⟨by rfl, fun w' hSw => by (try dsimp only at hSw); (try subst hSw); go_simp⟩) ?_
      simp only [Act.put, List.setIfInBounds_toArray, List.set_cons_zero, List.set_cons_succ]
      refine held_take 6 (.int .u32 (41 + (a : Int))) rfl (by kernel_rfl) (by kernel_rfl) (by kernel_rfl) (fun _ _ _ h => h) hHeld (Or.inl ⟨by rfl, fun w' hSw => by (try dsimp only at hSw); (try subst hSw); go_simp⟩) ?_
      simp only [Act.put, List.setIfInBounds_toArray, List.set_cons_zero, List.set_cons_succ]
      clear hw41' hu41
      refine held_take 8 (.int .u32 (z + 1)) rfl (by kernel_rfl) (by kernel_rfl) (by kernel_rfl) (fun _ _ _ h => h) hHeld (Or.inl ⟨by rfl, fun w' hSw => by (try dsimp only at hSw); (try subst hSw); go_simp⟩) ?_
      simp only [Act.put, List.setIfInBounds_toArray, List.set_cons_zero, List.set_cons_succ]
      refine held_take 11 (.slice (some ⟨g, o, none⟩) l.length c) rfl (by kernel_rfl) (by kernel_rfl) (by kernel_rfl) (fun _ _ _ h => h) hHeld (Or.inl ⟨by rfl, fun w' hSw => by (try dsimp only at hSw); (try subst hSw); go_simp⟩) ?_
      simp only [Act.put, List.setIfInBounds_toArray, List.set_cons_zero, List.set_cons_succ]
      refine held_take 12 (.int .i64 (j : Int)) rfl (by kernel_rfl) (by kernel_rfl) (by kernel_rfl) (fun _ _ _ h => h) hHeld (Or.inl ⟨by rfl, fun w' hSw => by (try dsimp only at hSw); (try subst hSw); go_simp⟩) ?_
      simp only [Act.put, List.setIfInBounds_toArray, List.set_cons_zero, List.set_cons_succ]
      refine held_take 13 (.pointer (some ⟨g, o + j * 2, none⟩)) rfl (by kernel_rfl) (by kernel_rfl) (by kernel_rfl) (fun _ _ _ h => h) hHeld (Or.inl ⟨by rfl, fun w' hSw => by (try dsimp only at hSw); (try subst hSw); go_simp⟩) ?_
      simp only [Act.put, List.setIfInBounds_toArray, List.set_cons_zero, List.set_cons_succ]
      refine held_take 14 (.pointer (some ⟨g, o + j * 2 + 1, none⟩)) rfl (by kernel_rfl) (by kernel_rfl) (by kernel_rfl) (fun _ _ _ h => h) hHeld (Or.inl ⟨by rfl, fun w' hSw => by (try dsimp only at hSw); (try subst hSw); go_simp⟩) ?_
      simp only [Act.put, List.setIfInBounds_toArray, List.set_cons_zero, List.set_cons_succ]
      refine held_take 15 (.string bs) rfl (by kernel_rfl) (by kernel_rfl) (by kernel_rfl) (fun _ _ _ h => h) hHeld (Or.inl ⟨by rfl, fun w' hSw => by (try dsimp only at hSw); (try subst hSw); go_simp⟩) ?_
      simp only [Act.put, List.setIfInBounds_toArray, List.set_cons_zero, List.set_cons_succ]
      refine held_step 7 rfl (by kernel_rfl) (fun K hK => ?_)
      go_simp
      go_at_call 125
      refine (hnum1.out _).mono ?_
      rintro e w3 ⟨rfl, k3⟩
      go_wp2_with fail
      refine hK.out _ _ ⟨k3.cell c0d (by simp), k3.cell c1d (by simp)⟩ (fun hHeld => ?_)
      clear hK K
      refine held_step 9 rfl (by kernel_rfl) (fun K hK => ?_)
      go_simp
      go_at_call 125
      refine (hnum.out _).mono ?_
      rintro e w4 ⟨rfl, k4⟩
      have k34 := k3.trans k4
      go_wp2_with fail
      refine hK.out _ _ ⟨k34.cell c0d (by simp), k34.cell c1d (by simp)⟩ (fun hHeld => ?_)
      clear hK K
      refine held_take 10 (.string (strOf a8)) rfl (by kernel_rfl) (by kernel_rfl) (by kernel_rfl) (fun _ _ _ h => h) hHeld (Or.inl ⟨by rfl, fun w' hSw => hall8.out ▸ exec_concat 9 9 (.tmp 28) (.tmp 30) rfl (be4 (41 + a)) (be4 (n + 1)) rfl rfl (by simp [be4_length]) w'⟩) ?_
      simp only [Act.put, List.setIfInBounds_toArray, List.set_cons_zero, List.set_cons_succ]
      refine held_take 16 (.string (strOf (a8 ++ data))) rfl (by kernel_rfl) (by kernel_rfl) (by kernel_rfl) (fun _ _ _ h => h) hHeld (Or.inl ⟨by rfl, fun w' hSw => exec_concat 9 9 (.tmp 31) (.tmp 36) rfl a8 data rfl (congrArg Value.string hbs.out.symm) (by have := hlen1.out; omega) w'⟩) ?_
      simp only [Act.put, List.setIfInBounds_toArray, List.set_cons_zero, List.set_cons_succ]
      refine held_step 17 rfl (by kernel_rfl) (fun K hK => ?_)
      go_simp
      go_at_call 127
      refine (hfil.out _).mono ?_
      rintro e w5 ⟨rfl, rfl⟩
      go_wp2_with fail
      refine hK.out _ _ ⟨k34.cell c0d (by simp), k34.cell c1d (by simp)⟩ (fun hHeld => ?_)
      clear hK K
      refine held_take 18 (.string H) rfl (by kernel_rfl) (by kernel_rfl) (by kernel_rfl) (fun _ _ _ h => h) hHeld (Or.inl ⟨by rfl, fun w' hSw => by (try dsimp only at hSw); (try subst hSw); go_simp⟩) ?_
      simp only [Act.put, List.setIfInBounds_toArray, List.set_cons_zero, List.set_cons_succ]
      refine wpAnyH_done (by kernel_rfl) ?_ _
      clear hHeld
      have k05 := kd.trans k34
      have own5 := ownsRow_kept' hown k05 (by simp)
      have hd5 := hdj.kept k05 (by simp)
      have hon5 := honly.trans (k05.more (by simp))
      have hG5 : Hid (∀ i ∈ Gj, (i ∈ G ∨ w.heap.size ≤ i) ∧ i < w5.heap.size) := fun i hi => ⟨(hGj.out i hi).1, Nat.lt_of_lt_of_le (hGj.out i hi).2 k05.size⟩
      have hwr5 := honly.size
      have news := World.news_of_block (Blk.new w5 9 #[.string H])
      have ka : Only [] w5 (w5.alloc (.cells #[.string H] 9)) := (Only.refl [] w5).alloc _
      have owna := ownsRow_kept' own5 ka (by simp)
      have hone : ∀ u ∈ [Value.string H], u.oneCell' = true := by
        intro u hu
        simp at hu
        subst hu
        rfl
      clear hown hdj honly hGj c0 c1 c0d c1d k3 k4 k34 kd
      go_wp2_with (at_builtin; go_must (refine wpList_append_lies _ rfl (.tmp 39) (.tmp 41) 45 rfl 0 9 ti (.string ⟨#[]⟩) 1 16 Tryz.underlying45 ht1.out ht2.out ht3.out ht4.out rfl (by decide) vf j _ rfl owna ⟨w5.heap.size, 0, none⟩ 1 1 [.string H] rfl rfl news hone (by decide) (by unfold maxLen; omega) (by omega) (Nat.zero_le _) _ rfl ?go))
      case go =>
        intro g6 cp w6 hown6 hgrow hat6 hlt6
        have k56 : Only vf.ownBlock.toList w5 w6 := (ka.more (T := vf.ownBlock.toList) (by simp)).grown hgrow (fun q hq => .inl (by simp [hq]))
        have hd6 := hd5.kept k56 (fun i hi hm => (hnew.out i (by simpa using hm)).2 hi)
        have hg6 : w.heap.size ≤ g6 ∧ g6 ∉ Gj := by
          rcases hat6 with h' | h'
          · exact hnew.out g6 h'
          · have := k05.size
            refine ⟨by omega, fun hm => ?_⟩
            have := (hG5.out g6 hm).2
            omega
        have hon6 : Only G w w6 := hon5.then k56 (fun i hi => .inr (hnew.out i (by simpa using hi)).1)
        have hown7 : w6.ownsRow 0 9 1 (.slice (some ⟨g6, 0, none⟩) (j + 1) cp) (j + 1) (strCells (homeTexts (n + 1) (l.take (j + 1)))) := by
          rw [hcp.out, strCells_snoc, hH.out]
          exact hown6
        have hwr := rwrite_any w6 p Gj sj (1 + (j : Int)) HL (by omega) (by omega) (by omega) hd6
        have hlatew := written_late sj (1 + (j : Int)) HL
        have hfirmw := written_firm sj (1 + (j : Int)) HL
        have hset4 : settleW s (copiesOf (homesOf (n + 1) l)) = if writeErr sj (1 + (j : Int)) HL = 0 then settleW (written sj (1 + (j : Int)) HL) ((copiesOf (homesOf (n + 1) l)).drop (j + 1)) else (writeErr sj (1 + (j : Int)) HL, written sj (1 + (j : Int)) HL) := by
          have e : ((1 + j : Nat) : Int) = 1 + (j : Int) := by omega
          have h' := hset2.out
          rw [e] at h'
          exact h'
        have herr : writeErr sj (1 + (j : Int)) HL = 0 ∨ writeErr sj (1 + (j : Int)) HL = 5 := by
          rw [writeErr, hfirm]
          rw [if_neg (by
            have h1 := hth.out.1
            have e : ((1 + j : Nat) : Int) = 1 + (j : Int) := by omega
            simp only [e] at h1
            rw [h1, hhl.out]
            decide)]
          split
          · exact .inr rfl
          · exact .inl rfl
        have hGj6 : Hid (∀ i ∈ Gj, (i ∈ G ∨ w.heap.size ≤ i) ∧ i < w6.heap.size) := fun i hi => ⟨(hG5.out i hi).1, Nat.lt_of_lt_of_le (hG5.out i hi).2 k56.size⟩
        rw [← hH.out] at hown6 news owna
        clear hown6 hgrow hat6 owna news ka own5 hd5 hon5 hG5 k05 k56 hd6
        rw [hH.out] at hwr
        replace hwr := Lib.hid hwr
        replace hown7 := Lib.hid hown7
        replace hset4 := Lib.hid hset4
        have hjI : (j : Int) ≤ 40 := by omega
        have l06 := hon6.cell l0 hlp0
        go_wp2_with fail
        refine hwr.out.mono ?_
        rintro e w7 ⟨rfl, G7, hd7, k7, hG7⟩
        have hon7 : Only G w w7 := hon6.then k7 (fun i hi => (hGj6.out i hi).1)
        have hG7' : Hid (∀ i ∈ G7, (i ∈ G ∨ w.heap.size ≤ i) ∧ i < w7.heap.size) := fun i hi => ⟨by
          rcases (hG7 i hi).1 with h' | h'
          · exact (hGj6.out i h').1
          · have := hon6.size; exact .inr (by omega), (hG7 i hi).2⟩
        have hown8 := ownsRow_kept' hown7.out k7 (fun q hq => by simp only [Value.ownBlock, Option.some.injEq] at hq; subst hq; exact hg6.2)
        have hnew8 : Hid (∀ q, (Value.slice (some ⟨g6, 0, none⟩) (j + 1) cp).ownBlock = some q → w.heap.size ≤ q ∧ q ∉ G7) := fun q hq => by
          simp only [Value.ownBlock, Option.some.injEq] at hq
          subst hq
          refine ⟨hg6.1, fun hm => ?_⟩
          rcases (hG7 _ hm).1 with h' | h'
          · exact hg6.2 h'
          · omega
        clear hG7 k7 hon6 hown7 hGj6
        rcases herr with herr | herr
        · have hset3 := hset4.out
          rw [if_pos herr] at hset3
          rw [herr]
          replace hset3 := Lib.hid hset3
          replace herr := Lib.hid herr
          replace hown8 := Lib.hid hown8
          go_wp2
          go_roundw
          case rel => exact ⟨j + 1, written sj (1 + (j : Int)) HL, G7, _, by omega, by go_num, rfl, hset3, by rw [hfirmw]; exact hfirm, by omega, hd7, hon7, hG7', hown8.out, hnew8⟩
          case measure => simp [intOf]; omega
        · have hset3 := hset4.out
          rw [if_neg (by rw [herr]; decide), herr] at hset3
          have hcw : commitW s n l = (5, written sj (1 + (j : Int)) HL) := commitW_1 hset3 (by decide)
          have hfin : RefDid w w7 p G (commitW s n l).2 := by
            rw [hcw]
            exact ⟨G7, hd7, hon7, hG7'.out⟩
          have hbo : decide ((commitW s n l).1 = 0) = false := by rw [hcw]; rfl
          rw [herr]
          replace hset3 := Lib.hid hset3
          replace herr := Lib.hid herr
          replace hfin := Lib.hid hfin
          replace hcw := Lib.hid hcw
          replace hbo := Lib.hid hbo
          clear hown8
          go_wp2
          go_ret
          exact ⟨by rw [hbo.out]; rfl, hfin.out⟩
    · have hjl : j = l.length := by omega
      have hset3 := hset.out
      rw [hjl, ← hclen.out, List.drop_of_length_le (Nat.le_refl _), settleW] at hset3
      rw [hjl, List.take_of_length_le (Nat.le_refl _)] at hown
      have hge : (l.length : Int) ≤ (j : Int) := by omega
      have hlatej' : sj.late.length ≤ s.late.length + 40 := by omega
      have l0r := honly.cell l0 hlp0
      have kd : Only [] wr wr.drew := (Only.refl [] wr).drew
      have l0d := kd.cell l0r (by simp)
      have hbar := rbarrier_any wr.drew p Gj sj (by omega) (hdj.kept kd (by simp))
      have hlpj : lp ∉ Gj := fun hm => by
        rcases (hGj.out lp hm).1 with h' | h'
        · exact hlp0 h'
        · omega
      clear hset hlatej hjl
      replace hset3 := Lib.hid hset3
      replace hbar := Lib.hid hbar
      by_cases hb1 : barErr sj = 0
      · replace hset3 := hset3.out
        replace hbar := hbar.out
        have hbar2 : RefSame wr.drew wr.drew p Gj sj := ⟨hdj.kept kd (by simp), Only.refl _ _⟩
        clear hbar2
        have hul : IntKind.u32.wrap (l.length : Int) = (l.length : Int) := by rw [IntKind.wrap_u32]; omega
        have hlate1 : (barred sj).late.length ≤ s.late.length + 40 := by have := barred_late sj; omega
        have hfirm1 : (barred sj).firm.length = s.firm.length := by rw [barred_firm_len, hfirm]
        have hnumL := fun W => fnumber_any W (l.length : Int) l.length rfl (by omega)
        have hfilM := fun W => fill_any W (lcom ++ be4 (n + 1) ++ be4 l.length) (by simp [lcom, be4_length])
        have hMM : markL (n + 1) l.length = fillL (lcom ++ be4 (n + 1) ++ be4 l.length) := by rw [markL, List.append_assoc]
        rw [← hMM] at hfilM
        have hml := markL_length (n + 1) l.length
        have herr2 : writeErr (barred sj) 0 (markL (n + 1) l.length) = 0 ∨ writeErr (barred sj) 0 (markL (n + 1) l.length) = 5 := by
          rw [writeErr, hfirm1]
          rw [if_neg (by
            have : hasBlock s.firm.length 0 = true := by simp only [hasBlock, decide_eq_true_eq]; omega
            rw [this, hml]
            decide)]
          split
          · exact .inr rfl
          · exact .inl rfl
        have hset5 : settleW (barred sj) [⟨0, markL (n + 1) l.length⟩] = if writeErr (barred sj) 0 (markL (n + 1) l.length) = 0 then (barErr (written (barred sj) 0 (markL (n + 1) l.length)), barred (written (barred sj) 0 (markL (n + 1) l.length))) else (writeErr (barred sj) 0 (markL (n + 1) l.length), written (barred sj) 0 (markL (n + 1) l.length)) := rfl
        have hlate2 : (written (barred sj) 0 (markL (n + 1) l.length)).late.length ≤ s.late.length + 41 := by have := written_late (barred sj) 0 (markL (n + 1) l.length); omega
        have hfirm2 : (written (barred sj) 0 (markL (n + 1) l.length)).firm.length = s.firm.length := by rw [written_firm]; exact hfirm1
        rw [hb1] at hset3
        have hset3 := hset3
        generalize hML : markL (n + 1) l.length = ML at *
        generalize hMs : strOf ML = MS at *
        have hwrM := fun W Gx (h' : Ref W p Gx (barred sj)) => rwrite_any W p Gx (barred sj) 0 ML (by decide) (by decide) (by omega) h'
        rw [hMs] at hwrM
        rw [hb1] at hbar
        replace hnumL := Lib.hid hnumL
        replace hfilM := Lib.hid hfilM
        replace hwrM := Lib.hid hwrM
        replace hset5 := Lib.hid hset5
        replace hMM := Lib.hid hMM
        replace hML := Lib.hid hML
        replace hMs := Lib.hid hMs
        replace hb1 := Lib.hid hb1
        replace hset3 := Lib.hid hset3
        replace hbar := Lib.hid hbar
        go_wp2_with fail
        refine wp_region_held_drew (S := fun w' => w'.cell? ⟨lp, 0, none⟩ = some (.pointer (some ⟨p, 0, none⟩))) (by kernel_rfl) l0d (fun hHeld => ?_)
        refine held_take 0 (.pointer (some ⟨lp, 0, none⟩)) rfl (by kernel_rfl) (by kernel_rfl) (by kernel_rfl) (fun _ _ _ h => h) hHeld (Or.inl ⟨by rfl, fun w' hSw => by (try dsimp only at hSw); (try subst hSw); go_simp⟩) ?_
        simp only [Act.put, List.setIfInBounds_toArray, List.set_cons_zero, List.set_cons_succ]
        refine held_take 1 (.pointer (some ⟨lp, 0, none⟩)) rfl (by kernel_rfl) (by kernel_rfl) (by kernel_rfl) (fun _ _ _ h => h) hHeld (Or.inl ⟨by rfl, fun w' hSw => by (try dsimp only at hSw); (try subst hSw); go_simp⟩) ?_
        simp only [Act.put, List.setIfInBounds_toArray, List.set_cons_zero, List.set_cons_succ]
        refine held_take 2 (.pointer (some ⟨lp, 0, none⟩)) rfl (by kernel_rfl) (by kernel_rfl) (by kernel_rfl) (fun _ _ _ h => h) hHeld (Or.inl ⟨by rfl, fun w' hSw => by (try dsimp only at hSw); (try subst hSw); go_simp⟩) ?_
        simp only [Act.put, List.setIfInBounds_toArray, List.set_cons_zero, List.set_cons_succ]
        refine held_take 3 (.pointer (some ⟨p, 0, none⟩)) rfl (by kernel_rfl) (by kernel_rfl) (by kernel_rfl) (fun _ _ _ h => h) hHeld (Or.inl ⟨by rfl, fun w' hSw => by (try dsimp only at hSw); (try subst hSw); go_simp⟩) ?_
        simp only [Act.put, List.setIfInBounds_toArray, List.set_cons_zero, List.set_cons_succ]
        refine held_step 4 rfl (by kernel_rfl) (fun K hK => ?_)
        go_simp
        go_at_call 57
        refine hbar.out.mono ?_
        rintro e w3 ⟨rfl, hs3⟩
        go_wp2_with fail
        refine hK.out _ _ (hs3.2.cell l0d hlpj) (fun hHeld => ?_)
        clear hK K
        have l03 := hs3.2.cell l0d hlpj
        refine held_take 5 (.bool false) rfl (by kernel_rfl) (by kernel_rfl) (by kernel_rfl) (fun _ _ _ h => h) hHeld (Or.inl ⟨by rfl, fun w' hSw => by (try dsimp only at hSw); (try subst hSw); go_simp⟩) ?_
        simp only [Act.put, List.setIfInBounds_toArray, List.set_cons_zero, List.set_cons_succ]
        refine held_take 6 (.bool false) rfl (by kernel_rfl) (by kernel_rfl) (by kernel_rfl) (fun _ _ _ h => h) hHeld (Or.inl ⟨by rfl, fun w' hSw => by (try dsimp only at hSw); (try subst hSw); go_simp⟩) ?_
        simp only [Act.put, List.setIfInBounds_toArray, List.set_cons_zero, List.set_cons_succ]
        refine held_take 7 (.pointer (some ⟨lp, 0, none⟩)) rfl (by kernel_rfl) (by kernel_rfl) (by kernel_rfl) (fun _ _ _ h => h) hHeld (Or.inl ⟨by rfl, fun w' hSw => by (try dsimp only at hSw); (try subst hSw); go_simp⟩) ?_
        simp only [Act.put, List.setIfInBounds_toArray, List.set_cons_zero, List.set_cons_succ]
        refine held_take 8 (.pointer (some ⟨lp, 0, none⟩)) rfl (by kernel_rfl) (by kernel_rfl) (by kernel_rfl) (fun _ _ _ h => h) hHeld (Or.inl ⟨by rfl, fun w' hSw => by (try dsimp only at hSw); (try subst hSw); go_simp⟩) ?_
        simp only [Act.put, List.setIfInBounds_toArray, List.set_cons_zero, List.set_cons_succ]
        refine held_take 9 (.pointer (some ⟨lp, 0, none⟩)) rfl (by kernel_rfl) (by kernel_rfl) (by kernel_rfl) (fun _ _ _ h => h) hHeld (Or.inl ⟨by rfl, fun w' hSw => by (try dsimp only at hSw); (try subst hSw); go_simp⟩) ?_
        simp only [Act.put, List.setIfInBounds_toArray, List.set_cons_zero, List.set_cons_succ]
        refine held_take 10 (.pointer (some ⟨p, 0, none⟩)) rfl (by kernel_rfl) (by kernel_rfl) (by kernel_rfl) (fun _ _ _ h => h) hHeld (Or.inl ⟨by rfl, fun w' hSw => by (try dsimp only at hSw); (try subst hSw); go_simp⟩) ?_
        simp only [Act.put, List.setIfInBounds_toArray, List.set_cons_zero, List.set_cons_succ]
        refine held_take 11 (.int .u32 (z + 1)) rfl (by kernel_rfl) (by kernel_rfl) (by kernel_rfl) (fun _ _ _ h => h) hHeld (Or.inl ⟨by rfl, fun w' hSw => by (try dsimp only at hSw); (try subst hSw); go_simp⟩) ?_
        simp only [Act.put, List.setIfInBounds_toArray, List.set_cons_zero, List.set_cons_succ]
        refine held_take 14 (.slice A l.length c) rfl (by kernel_rfl) (by kernel_rfl) (by kernel_rfl) (fun _ _ _ h => h) hHeld (Or.inl ⟨by rfl, fun w' hSw => by (try dsimp only at hSw); (try subst hSw); go_simp⟩) ?_
        simp only [Act.put, List.setIfInBounds_toArray, List.set_cons_zero, List.set_cons_succ]
        refine held_take 15 (.int .i64 (l.length : Int)) rfl (by kernel_rfl) (by kernel_rfl) (by kernel_rfl) (fun _ _ _ h => h) hHeld (Or.inl ⟨by rfl, fun w' hSw => by (try dsimp only at hSw); (try subst hSw); go_simp⟩) ?_
        simp only [Act.put, List.setIfInBounds_toArray, List.set_cons_zero, List.set_cons_succ]
        refine held_take 16 (.int .u32 (l.length : Int)) rfl (by kernel_rfl) (by kernel_rfl) (by kernel_rfl) (fun _ _ _ h => h) hHeld (Or.inl ⟨by rfl, fun w' hSw => by (try dsimp only at hSw); (try subst hSw); go_simp⟩) ?_
        simp only [Act.put, List.setIfInBounds_toArray, List.set_cons_zero, List.set_cons_succ]
        refine held_step 12 rfl (by kernel_rfl) (fun K hK => ?_)
        go_simp
        go_at_call 125
        refine (hnum.out _).mono ?_
        rintro e w4 ⟨rfl, k4⟩
        go_wp2_with fail
        refine hK.out _ _ (k4.cell l03 (by simp)) (fun hHeld => ?_)
        clear hK K
        refine held_take 13 (.string (strOf (lcom ++ be4 (n + 1)))) rfl (by kernel_rfl) (by kernel_rfl) (by kernel_rfl) (fun _ _ _ h => h) hHeld (Or.inl ⟨by rfl, fun w' hSw => exec_concat 9 9 (.const (.string ⟨#[76, 67, 79, 77]⟩)) (.tmp 64) rfl lcom (be4 (n + 1)) rfl rfl (by simp [lcom, be4_length]) w'⟩) ?_
        simp only [Act.put, List.setIfInBounds_toArray, List.set_cons_zero, List.set_cons_succ]
        refine held_step 17 rfl (by kernel_rfl) (fun K hK => ?_)
        go_simp
        go_at_call 125
        refine (hnumL.out _).mono ?_
        rintro e w5 ⟨rfl, k5⟩
        have k35 := k4.trans k5
        go_wp2_with fail
        refine hK.out _ _ (k35.cell l03 (by simp)) (fun hHeld => ?_)
        clear hK K
        refine held_take 18 (.string (strOf (lcom ++ be4 (n + 1) ++ be4 l.length))) rfl (by kernel_rfl) (by kernel_rfl) (by kernel_rfl) (fun _ _ _ h => h) hHeld (Or.inl ⟨by rfl, fun w' hSw => exec_concat 9 9 (.tmp 65) (.tmp 69) rfl (lcom ++ be4 (n + 1)) (be4 l.length) rfl rfl (by simp [lcom, be4_length]) w'⟩) ?_
        simp only [Act.put, List.setIfInBounds_toArray, List.set_cons_zero, List.set_cons_succ]
        refine held_step 19 rfl (by kernel_rfl) (fun K hK => ?_)
        go_simp
        go_at_call 127
        refine (hfilM.out _).mono ?_
        rintro e w6 ⟨rfl, rfl⟩
        go_wp2_with fail
        refine hK.out _ _ (k35.cell l03 (by simp)) (fun hHeld => ?_)
        clear hK K
        refine held_step 20 rfl (by kernel_rfl) (fun K hK => ?_)
        go_simp
        go_at_call 37
        refine (hwrM.out _ Gj (hs3.1.kept k35 (by simp))).mono ?_
        rintro e w7 ⟨rfl, G7, hd7, k7, hG7⟩
        have l07 := k7.cell (k35.cell l03 (by simp)) hlpj
        go_wp2_with fail
        refine hK.out _ _ l07 (fun hHeld => ?_)
        clear hK K
        clear hul
        have hon3 : Only G w w3 := (honly.trans (kd.more (by simp))).then hs3.2 (fun i hi => (hGj.out i hi).1)
        have hon7 : Only G w w7 := (hon3.trans (k35.more (by simp))).then k7 (fun i hi => (hGj.out i hi).1)
        have hG7' : Hid (∀ i ∈ G7, (i ∈ G ∨ w.heap.size ≤ i) ∧ i < w7.heap.size) := fun i hi => ⟨by
          rcases (hG7 i hi).1 with h' | h'
          · exact (hGj.out i h').1
          · have := hon3.size; have := k35.size; exact .inr (by omega), (hG7 i hi).2⟩
        have hlp7 : lp ∉ G7 := fun hm => by
          rcases (hG7'.out lp hm).1 with h' | h'
          · exact hlp0 h'
          · omega
        rcases herr2 with herr2 | herr2
        · have hset6 := hset5.out
          rw [if_pos herr2] at hset6
          rw [herr2]
          rw [hML.out.symm] at hset6
          obtain ⟨s2w, hs2w⟩ : ∃ x, x = written (barred sj) 0 ML := ⟨_, rfl⟩
          rw [hML.out, ← hs2w] at hset6
          rw [← hs2w] at hd7 hlate2 hfirm2
          have hbar2 := rbarrier_any w7 p G7 s2w (by omega) hd7
          have own3 : w7.ownsRow 0 9 1 vf l.length (strCells (homeTexts (n + 1) l)) := ownsRow_kept' (ownsRow_kept' (ownsRow_kept' (ownsRow_kept' hown kd (by simp)) hs3.2 (fun q hq => (hnew.out q hq).2)) k35 (by simp)) k7 (fun q hq => (hnew.out q hq).2)
          have hvG7 : ∀ q, vf.ownBlock = some q → q ∉ G7 := fun q hq hm => by
            rcases (hG7 q hm).1 with h' | h'
            · exact (hnew.out q hq).2 h'
            · have := (hown.lt q hq).2
              have := kd.size
              have := hs3.2.size
              have := k35.size
              omega
          replace hs2w := Lib.hid hs2w
          replace herr2 := Lib.hid herr2
          refine held_take 21 (.bool false) rfl (by kernel_rfl) (by kernel_rfl) (by kernel_rfl) (fun _ _ _ h => h) hHeld (Or.inl ⟨by rfl, fun w' hSw => by (try dsimp only at hSw); (try subst hSw); go_simp⟩) ?_
          simp only [Act.put, List.setIfInBounds_toArray, List.set_cons_zero, List.set_cons_succ]
          refine held_take 22 (.bool false) rfl (by kernel_rfl) (by kernel_rfl) (by kernel_rfl) (fun _ _ _ h => h) hHeld (Or.inl ⟨by rfl, fun w' hSw => by (try dsimp only at hSw); (try subst hSw); go_simp⟩) ?_
          simp only [Act.put, List.setIfInBounds_toArray, List.set_cons_zero, List.set_cons_succ]
          refine held_take 23 (.bool false) rfl (by kernel_rfl) (by kernel_rfl) (by kernel_rfl) (fun _ _ _ h => h) hHeld (Or.inl ⟨by rfl, fun w' hSw => by (try dsimp only at hSw); (try subst hSw); go_simp⟩) ?_
          simp only [Act.put, List.setIfInBounds_toArray, List.set_cons_zero, List.set_cons_succ]
          refine held_take 24 (.pointer (some ⟨lp, 0, none⟩)) rfl (by kernel_rfl) (by kernel_rfl) (by kernel_rfl) (fun _ _ _ h => h) hHeld (Or.inl ⟨by rfl, fun w' hSw => by (try dsimp only at hSw); (try subst hSw); go_simp⟩) ?_
          simp only [Act.put, List.setIfInBounds_toArray, List.set_cons_zero, List.set_cons_succ]
          refine held_take 25 (.pointer (some ⟨lp, 0, none⟩)) rfl (by kernel_rfl) (by kernel_rfl) (by kernel_rfl) (fun _ _ _ h => h) hHeld (Or.inl ⟨by rfl, fun w' hSw => by (try dsimp only at hSw); (try subst hSw); go_simp⟩) ?_
          simp only [Act.put, List.setIfInBounds_toArray, List.set_cons_zero, List.set_cons_succ]
          refine held_take 26 (.pointer (some ⟨lp, 0, none⟩)) rfl (by kernel_rfl) (by kernel_rfl) (by kernel_rfl) (fun _ _ _ h => h) hHeld (Or.inl ⟨by rfl, fun w' hSw => by (try dsimp only at hSw); (try subst hSw); go_simp⟩) ?_
          simp only [Act.put, List.setIfInBounds_toArray, List.set_cons_zero, List.set_cons_succ]
          refine held_take 27 (.pointer (some ⟨p, 0, none⟩)) rfl (by kernel_rfl) (by kernel_rfl) (by kernel_rfl) (fun _ _ _ h => h) hHeld (Or.inl ⟨by rfl, fun w' hSw => by (try dsimp only at hSw); (try subst hSw); go_simp⟩) ?_
          simp only [Act.put, List.setIfInBounds_toArray, List.set_cons_zero, List.set_cons_succ]
          by_cases hb2 : barErr s2w = 0
          · have hc3 : commitW s n l = settleW (barred s2w) (homesOf (n + 1) l) := commitW_3 hset3.out (by rw [hML.out, hset6, hb2])
            rw [hb2] at hbar2
            replace hbar2 := Lib.hid hbar2
            replace hb2 := Lib.hid hb2
            refine held_step 28 rfl (by kernel_rfl) (fun K hK => ?_)
            go_simp
            go_at_call 57
            refine hbar2.out.mono ?_
            rintro e w8 ⟨rfl, hs8⟩
            have l08 := hs8.2.cell l07 hlp7
            go_wp2_with fail
            refine hK.out _ _ l08 (fun hHeld => ?_)
            clear hK K
            refine held_take 29 (.bool false) rfl (by kernel_rfl) (by kernel_rfl) (by kernel_rfl) (fun _ _ _ h => h) hHeld (Or.inl ⟨by rfl, fun w' hSw => by (try dsimp only at hSw); (try subst hSw); go_simp⟩) ?_
            simp only [Act.put, List.setIfInBounds_toArray, List.set_cons_zero, List.set_cons_succ]
            refine held_take 30 (.bool false) rfl (by kernel_rfl) (by kernel_rfl) (by kernel_rfl) (fun _ _ _ h => h) hHeld (Or.inl ⟨by rfl, fun w' hSw => by (try dsimp only at hSw); (try subst hSw); go_simp⟩) ?_
            simp only [Act.put, List.setIfInBounds_toArray, List.set_cons_zero, List.set_cons_succ]
            refine wpAnyH_done (by kernel_rfl) ?_ _
            clear hHeld
            have hd8 := hs8.1
            have hon8 : Only G w w8 := hon7.then hs8.2 (fun i hi => (hG7'.out i hi).1)
            have own8 := ownsRow_kept' own3 hs8.2 (fun q hq => hvG7 q hq)
            have hG8 : Hid (∀ i ∈ G7, (i ∈ G ∨ w.heap.size ≤ i) ∧ i < w8.heap.size) := fun i hi => ⟨(hG7'.out i hi).1, Nat.lt_of_lt_of_le (hG7'.out i hi).2 hs8.2.size⟩
            have hlen2 : (barred s2w).firm.length = s.firm.length := by rw [barred_firm_len]; exact hfirm2
            have hlate8 : (barred s2w).late.length ≤ s.late.length + 41 := by have := barred_late s2w; omega
            generalize barred s2w = s2 at *
            obtain ⟨gv, cv, rfl, _, _⟩ := own8.form (by omega)
            have hgv := hvG7 gv rfl
            have hgvw := (hnew.out gv rfl).1
            replace hc3 := Lib.hid hc3
            clear hs8 hs3 hdj honly hGj hown hd7 hon7 hon3 k7 k35 k4 k5 own3 hG7 hG7' hvG7 hbar2 l07 l03 l08 l0d l0r
            go_wp2_with fail
            go_loopw [9] (fun i wx => ∃ (q : Nat) (sq : St) (Gq : List Nat), q ≤ l.length ∧ i = .int .i64 (q : Int) ∧ Hid (settleW s2 (homesOf (n + 1) l) = settleW sq ((homesOf (n + 1) l).drop q)) ∧ sq.firm.length = s.firm.length ∧ sq.late.length ≤ s.late.length + 41 + q ∧ Ref wx p Gq sq ∧ Only G w wx ∧ Hid (∀ i ∈ Gq, (i ∈ G ∨ w.heap.size ≤ i) ∧ i < wx.heap.size) ∧ wx.ownsRow 0 9 1 (.slice (some ⟨gv, 0, none⟩) l.length cv) l.length (strCells (homeTexts (n + 1) l)) ∧ Hid (gv ∉ Gq)) (fun i _ => l.length - (intOf i).toNat)
            case atStart => exact ⟨0, s2, G7, Nat.zero_le _, rfl, by rw [List.drop_zero]; exact rfl, hlen2, by omega, hd8, hon8, hG8, own8, hgv⟩
            case round =>
              clear hd8 hon8 hG8 own8 hgv hlate8 hlen2 hnew
              obtain ⟨q, sq, Gq, hq, rfl, hsetq, hlenq, hlateq, hdq, honq, hGq, ownq, hgvq⟩ := hrel
              by_cases hltq : q < l.length
              · obtain ⟨g, o, rfl, hg, hat⟩ := hb.get hltq
                have hgG : g ∉ G := hA0.out _ rfl
                have c0 := honq.cell (hat q hltq).1 hgG
                have hx := hall.out l[q] (List.getElem_mem hltq)
                have hth : There s.firm.length ⟨41 + l[q].at_, homeL (n + 1) l[q]⟩ := hthereh.out _ (by
                  have h1 := homes_drop (n + 1) l q hltq
                  exact List.mem_of_mem_drop (h1 ▸ List.mem_cons_self))
                have hset7 : settleW s2 (homesOf (n + 1) l) = if writeErr sq (41 + l[q].at_) (homeL (n + 1) l[q]) = 0 then settleW (written sq (41 + l[q].at_) (homeL (n + 1) l[q])) ((homesOf (n + 1) l).drop (q + 1)) else (writeErr sq (41 + l[q].at_) (homeL (n + 1) l[q]), written sq (41 + l[q].at_) (homeL (n + 1) l[q])) := by
                  rw [hsetq.out, homes_drop (n + 1) l q hltq, settleW]
                have c2 := ownq.cells rfl q (.string (strOf (homeL (n + 1) l[q]))) (by simp [strCells, homeTexts, hltq])
                rw [addr_add, Nat.zero_add] at c2
                have hfewq := hdq.fine.few
                obtain ⟨⟨x0, x1⟩, _⟩ := hx
                generalize l[q].at_ = at_ at *
                generalize homeL (n + 1) l[q] = HL at *
                have hatI : at_ ≤ 1048576 := by omega
                have hw41 : IntKind.i64.wrap (41 + at_) = 41 + at_ := by rw [IntKind.wrap_i64]; omega
                have herr : writeErr sq (41 + at_) HL = 0 ∨ writeErr sq (41 + at_) HL = 5 := by
                  rw [writeErr, hlenq]
                  rw [if_neg (by rw [hth.1, hth.2]; decide)]
                  split
                  · exact .inr rfl
                  · exact .inl rfl
                have hlatew := written_late sq (41 + at_) HL
                have hfirmw := written_firm sq (41 + at_) HL
                have kd : Only [] wr wr.drew := (Only.refl [] wr).drew
                have hwq := rwrite_any wr.drew p Gq sq (41 + at_) HL (by clear hw41; omega) (by clear hw41; omega) (by clear hw41; omega) (hdq.kept kd (by simp))
                have l0d := kd.cell (honq.cell l0 hlp0) (by simp)
                have c0d := kd.cell c0 (by simp)
                have c2d := kd.cell c2 (by simp)
                have hlpq : lp ∉ Gq := fun hm => by
                  clear hw41
                  rcases (hGq.out lp hm).1 with h' | h'
                  · exact hlp0 h'
                  · omega
                have hgq : g ∉ Gq := fun hm => by
                  clear hw41
                  rcases (hGq.out g hm).1 with h' | h'
                  · exact hgG h'
                  · omega
                generalize hHs : strOf HL = HS at *
                replace hHs := Lib.hid hHs
                replace hwq := Lib.hid hwq
                replace hset7 := Lib.hid hset7
                replace hth := Lib.hid hth
                go_wp2_with fail
                refine wp_region_held_drew (S := fun w' => w'.cell? ⟨lp, 0, none⟩ = some (.pointer (some ⟨p, 0, none⟩)) ∧ w'.cell? ⟨g, o + q * 2, none⟩ = some (.int .i64 at_) ∧ w'.cell? ⟨gv, q, none⟩ = some (.string HS)) (by kernel_rfl) ⟨l0d, c0d, c2d⟩ (fun hHeld => ?_)
                refine held_take 0 (.pointer (some ⟨lp, 0, none⟩)) rfl (by kernel_rfl) (by kernel_rfl) (by kernel_rfl) (fun _ _ _ h => h) hHeld (Or.inl ⟨by rfl, fun w' hSw => by (try dsimp only at hSw); (try subst hSw); go_simp⟩) ?_
                simp only [Act.put, List.setIfInBounds_toArray, List.set_cons_zero, List.set_cons_succ]
                refine held_take 1 (.pointer (some ⟨lp, 0, none⟩)) rfl (by kernel_rfl) (by kernel_rfl) (by kernel_rfl) (fun _ _ _ h => h) hHeld (Or.inl ⟨by rfl, fun w' hSw => by (try dsimp only at hSw); (try subst hSw); go_simp⟩) ?_
                simp only [Act.put, List.setIfInBounds_toArray, List.set_cons_zero, List.set_cons_succ]
                refine held_take 2 (.pointer (some ⟨lp, 0, none⟩)) rfl (by kernel_rfl) (by kernel_rfl) (by kernel_rfl) (fun _ _ _ h => h) hHeld (Or.inl ⟨by rfl, fun w' hSw => by (try dsimp only at hSw); (try subst hSw); go_simp⟩) ?_
                simp only [Act.put, List.setIfInBounds_toArray, List.set_cons_zero, List.set_cons_succ]
                refine held_take 3 (.pointer (some ⟨p, 0, none⟩)) rfl (by kernel_rfl) (by kernel_rfl) (by kernel_rfl) (fun _ _ _ h => h) hHeld (Or.inl ⟨by rfl, fun w' hSw => by (try dsimp only at hSw); (try subst hSw); go_simp⟩) ?_
                simp only [Act.put, List.setIfInBounds_toArray, List.set_cons_zero, List.set_cons_succ]
                refine held_take 4 (.slice (some ⟨g, o, none⟩) l.length c) rfl (by kernel_rfl) (by kernel_rfl) (by kernel_rfl) (fun _ _ _ h => h) hHeld (Or.inl ⟨by rfl, fun w' hSw => by (try dsimp only at hSw); (try subst hSw); go_simp⟩) ?_
                simp only [Act.put, List.setIfInBounds_toArray, List.set_cons_zero, List.set_cons_succ]
                refine held_take 5 (.int .i64 (q : Int)) rfl (by kernel_rfl) (by kernel_rfl) (by kernel_rfl) (fun _ _ _ h => h) hHeld (Or.inl ⟨by rfl, fun w' hSw => by (try dsimp only at hSw); (try subst hSw); go_simp⟩) ?_
                simp only [Act.put, List.setIfInBounds_toArray, List.set_cons_zero, List.set_cons_succ]
                refine held_take 6 (.pointer (some ⟨g, o + q * 2, none⟩)) rfl (by kernel_rfl) (by kernel_rfl) (by kernel_rfl) (fun _ _ _ h => h) hHeld (Or.inl ⟨by rfl, fun w' hSw => by (try dsimp only at hSw); (try subst hSw); go_simp⟩) ?_
                simp only [Act.put, List.setIfInBounds_toArray, List.set_cons_zero, List.set_cons_succ]
                refine held_take 7 (.pointer (some ⟨g, o + q * 2, none⟩)) rfl (by kernel_rfl) (by kernel_rfl) (by kernel_rfl) (fun _ _ _ h => h) hHeld (Or.inl ⟨by rfl, fun w' hSw => by (try dsimp only at hSw); (try subst hSw); go_simp⟩) ?_
                simp only [Act.put, List.setIfInBounds_toArray, List.set_cons_zero, List.set_cons_succ]
                refine held_take 8 (.int .i64 at_) rfl (by kernel_rfl) (by kernel_rfl) (by kernel_rfl) (fun _ _ _ h => h) hHeld (Or.inl ⟨by rfl, fun w' hSw => by (try dsimp only at hSw); (try subst hSw); go_simp⟩) ?_
                simp only [Act.put, List.setIfInBounds_toArray, List.set_cons_zero, List.set_cons_succ]
                refine held_take 9 (.int .i64 (41 + at_)) rfl (by kernel_rfl) (by kernel_rfl) (by kernel_rfl) (fun _ _ _ h => h) hHeld (Or.inl ⟨by rfl, fun w' hSw => by (try dsimp only at hSw); (try subst hSw); go_simp⟩) ?_
                simp only [Act.put, List.setIfInBounds_toArray, List.set_cons_zero, List.set_cons_succ]
                refine held_take 10 (.slice (some ⟨gv, 0, none⟩) l.length cv) rfl (by kernel_rfl) (by kernel_rfl) (by kernel_rfl) (fun _ _ _ h => h) hHeld (Or.inl ⟨by rfl, fun w' hSw => by (try dsimp only at hSw); (try subst hSw); go_simp⟩) ?_
                simp only [Act.put, List.setIfInBounds_toArray, List.set_cons_zero, List.set_cons_succ]
                refine held_take 11 (.int .i64 (q : Int)) rfl (by kernel_rfl) (by kernel_rfl) (by kernel_rfl) (fun _ _ _ h => h) hHeld (Or.inl ⟨by rfl, fun w' hSw => by (try dsimp only at hSw); (try subst hSw); go_simp⟩) ?_
                simp only [Act.put, List.setIfInBounds_toArray, List.set_cons_zero, List.set_cons_succ]
                refine held_take 12 (.pointer (some ⟨gv, q, none⟩)) rfl (by kernel_rfl) (by kernel_rfl) (by kernel_rfl) (fun _ _ _ h => h) hHeld (Or.inl ⟨by rfl, fun w' hSw => by (try dsimp only at hSw); (try subst hSw); go_simp⟩) ?_
                simp only [Act.put, List.setIfInBounds_toArray, List.set_cons_zero, List.set_cons_succ]
                refine held_take 13 (.string HS) rfl (by kernel_rfl) (by kernel_rfl) (by kernel_rfl) (fun _ _ _ h => h) hHeld (Or.inl ⟨by rfl, fun w' hSw => by (try dsimp only at hSw); (try subst hSw); go_simp⟩) ?_
                simp only [Act.put, List.setIfInBounds_toArray, List.set_cons_zero, List.set_cons_succ]
                clear hw41
                refine held_step 14 rfl (by kernel_rfl) (fun K hK => ?_)
                go_simp
                go_at_call 37
                refine hwq.out.mono ?_
                rintro e w9 ⟨rfl, G9, hd9, k9, hG9⟩
                go_wp2_with fail
                refine hK.out _ _ ⟨k9.cell l0d hlpq, k9.cell c0d hgq, k9.cell c2d hgvq.out⟩ (fun hHeld => ?_)
                clear hK K
                have hon9 : Only G w w9 := (honq.trans (kd.more (by simp))).then k9 (fun i hi => (hGq.out i hi).1)
                have hG9' : Hid (∀ i ∈ G9, (i ∈ G ∨ w.heap.size ≤ i) ∧ i < w9.heap.size) := fun i hi => ⟨by
                  rcases (hG9 i hi).1 with h' | h'
                  · exact (hGq.out i h').1
                  · have := honq.size; have := kd.size; exact .inr (by omega), (hG9 i hi).2⟩
                have own9 := ownsRow_kept' (ownsRow_kept' ownq kd (by simp)) k9 (fun b hb' => by simp only [Value.ownBlock, Option.some.injEq] at hb'; subst hb'; exact hgvq.out)
                have hgv9 : Hid (gv ∉ G9) := fun hm => by
                  rcases (hG9 gv hm).1 with h' | h'
                  · exact hgvq.out h'
                  · have := (ownq.lt gv rfl).2; have := kd.size; omega
                clear hG9 k9 honq hdq ownq hGq l0d c0d c2d c0 c2 kd hgvq hsetq
                rcases herr with herr | herr
                · have hset8 := hset7.out
                  rw [if_pos herr] at hset8
                  rw [herr]
                  replace hset8 := Lib.hid hset8
                  replace herr := Lib.hid herr
                  refine held_take 15 (.bool false) rfl (by kernel_rfl) (by kernel_rfl) (by kernel_rfl) (fun _ _ _ h => h) hHeld (Or.inl ⟨by rfl, fun w' hSw => by (try dsimp only at hSw); (try subst hSw); go_simp⟩) ?_
                  simp only [Act.put, List.setIfInBounds_toArray, List.set_cons_zero, List.set_cons_succ]
                  refine wpAnyH_done (by kernel_rfl) ?_ _
                  clear hHeld
                  replace own9 := Lib.hid own9
                  go_wp2
                  go_roundw
                  case rel => exact ⟨q + 1, written sq (41 + at_) HL, G9, by omega, by go_num, hset8, by rw [hfirmw]; exact hlenq, by omega, hd9, hon9, hG9', own9.out, hgv9⟩
                  case measure => simp [intOf]; omega
                · have hset8 := hset7.out
                  rw [if_neg (by rw [herr]; decide), herr] at hset8
                  have hcw : commitW s n l = (5, written sq (41 + at_) HL) := by rw [hc3.out, hset8]
                  have hbo : decide ((commitW s n l).1 = 0) = false := by rw [hcw]; rfl
                  have hfin : RefDid w w9 p G (commitW s n l).2 := by
                    rw [hcw]
                    exact ⟨G9, hd9, hon9, hG9'.out⟩
                  rw [herr]
                  replace hset8 := Lib.hid hset8
                  replace herr := Lib.hid herr
                  replace hfin := Lib.hid hfin
                  replace hcw := Lib.hid hcw
                  replace hbo := Lib.hid hbo
                  refine held_take 15 (.bool true) rfl (by kernel_rfl) (by kernel_rfl) (by kernel_rfl) (fun _ _ _ h => h) hHeld (Or.inl ⟨by rfl, fun w' hSw => by (try dsimp only at hSw); (try subst hSw); go_simp⟩) ?_
                  simp only [Act.put, List.setIfInBounds_toArray, List.set_cons_zero, List.set_cons_succ]
                  refine wpAnyH_done (by kernel_rfl) ?_ _
                  clear hHeld
                  clear own9
                  go_wp2
                  go_ret
                  exact ⟨by rw [hbo.out]; rfl, hfin.out⟩
              · have hql : q = l.length := by omega
                have hsetE := hsetq.out
                rw [hql, ← hhlen.out, List.drop_of_length_le (Nat.le_refl _), settleW] at hsetE
                have hgeq : (l.length : Int) ≤ (q : Int) := by omega
                have hbar3 := rbarrier_any wr p Gq sq (by omega) hdq
                have l0q := honq.cell l0 hlp0
                have hcE : commitW s n l = (barErr sq, barred sq) := by rw [hc3.out, hsetE]
                replace hcE := Lib.hid hcE
                replace hsetE := Lib.hid hsetE
                replace hbar3 := Lib.hid hbar3
                clear hql hsetq
                go_wp2_with fail
                refine hbar3.out.mono ?_
                rintro e w9 ⟨rfl, hs9⟩
                have hfin : RefDid w w9 p G (commitW s n l).2 := by
                  rw [hcE.out]
                  exact ⟨Gq, hs9.1, honq.then hs9.2 (fun i hi => (hGq.out i hi).1), fun i hi => ⟨(hGq.out i hi).1, Nat.lt_of_lt_of_le (hGq.out i hi).2 hs9.2.size⟩⟩
                have hbo : decide ((commitW s n l).1 = 0) = (barErr sq == 0) := by
                  rw [hcE.out]
                  by_cases hz' : barErr sq = 0
                  · simp [hz']
                  · simp [hz']
                replace hfin := Lib.hid hfin
                replace hbo := Lib.hid hbo
                clear hs9 hdq honq hGq ownq
                go_wp2
                go_ret
                exact ⟨by rw [hbo.out]; rfl, hfin.out⟩
          · have hb5 : barErr s2w = 5 := by
              unfold barErr at hb2 ⊢
              split at hb2
              · rename_i h'; rw [if_pos h']
              · exact absurd rfl hb2
            have hcw : commitW s n l = (5, barred s2w) := by
              rw [hb5] at hset6
              exact commitW_2 hset3.out (by rw [hML.out]; exact hset6) (by decide)
            have hbo : decide ((commitW s n l).1 = 0) = false := by rw [hcw]; rfl
            rw [hb5] at hbar2
            replace hbar2 := Lib.hid hbar2
            replace hb2 := Lib.hid hb2
            replace hb5 := Lib.hid hb5
            replace hset6 := Lib.hid hset6
            refine held_step 28 rfl (by kernel_rfl) (fun K hK => ?_)
            go_simp
            go_at_call 57
            refine hbar2.out.mono ?_
            rintro e w8 ⟨rfl, hs8⟩
            go_wp2_with fail
            refine hK.out _ _ (hs8.2.cell l07 hlp7) (fun hHeld => ?_)
            clear hK K
            refine held_take 29 (.bool true) rfl (by kernel_rfl) (by kernel_rfl) (by kernel_rfl) (fun _ _ _ h => h) hHeld (Or.inl ⟨by rfl, fun w' hSw => by (try dsimp only at hSw); (try subst hSw); go_simp⟩) ?_
            simp only [Act.put, List.setIfInBounds_toArray, List.set_cons_zero, List.set_cons_succ]
            refine held_take 30 (.bool true) rfl (by kernel_rfl) (by kernel_rfl) (by kernel_rfl) (fun _ _ _ h => h) hHeld (Or.inl ⟨by rfl, fun w' hSw => by (try dsimp only at hSw); (try subst hSw); go_simp⟩) ?_
            simp only [Act.put, List.setIfInBounds_toArray, List.set_cons_zero, List.set_cons_succ]
            refine wpAnyH_done (by kernel_rfl) ?_ _
            clear hHeld
            have hfin : RefDid w w8 p G (commitW s n l).2 := by
              rw [hcw]
              exact ⟨G7, hs8.1, hon7.then hs8.2 (fun i hi => (hG7'.out i hi).1), fun i hi => ⟨(hG7'.out i hi).1, Nat.lt_of_lt_of_le (hG7'.out i hi).2 hs8.2.size⟩⟩
            replace hfin := Lib.hid hfin
            replace hcw := Lib.hid hcw
            replace hbo := Lib.hid hbo
            clear hs8 hs3 hdj honly hGj hown hd7 hon7 hon3 k7 k35 k4 k5 own3
            go_wp2
            go_ret
            exact ⟨by rw [hbo.out]; rfl, hfin.out⟩
        · have hset6 := hset5.out
          rw [if_neg (by rw [herr2]; decide), herr2] at hset6
          have hcw : commitW s n l = (5, written (barred sj) 0 ML) := commitW_2 hset3.out (by rw [hML.out]; exact hset6) (by decide)
          have hbo : decide ((commitW s n l).1 = 0) = false := by rw [hcw]; rfl
          have hfin : RefDid w w7 p G (commitW s n l).2 := by
            rw [hcw]
            exact ⟨G7, hd7, hon7, hG7'.out⟩
          rw [herr2]
          replace hset6 := Lib.hid hset6
          replace herr2 := Lib.hid herr2
          replace hfin := Lib.hid hfin
          replace hcw := Lib.hid hcw
          replace hbo := Lib.hid hbo
          refine held_take 21 (.bool true) rfl (by kernel_rfl) (by kernel_rfl) (by kernel_rfl) (fun _ _ _ h => h) hHeld (Or.inl ⟨by rfl, fun w' hSw => by (try dsimp only at hSw); (try subst hSw); go_simp⟩) ?_
          simp only [Act.put, List.setIfInBounds_toArray, List.set_cons_zero, List.set_cons_succ]
          refine held_take 22 (.bool true) rfl (by kernel_rfl) (by kernel_rfl) (by kernel_rfl) (fun _ _ _ h => h) hHeld (Or.inl ⟨by rfl, fun w' hSw => by (try dsimp only at hSw); (try subst hSw); go_simp⟩) ?_
          simp only [Act.put, List.setIfInBounds_toArray, List.set_cons_zero, List.set_cons_succ]
          refine held_take 23 (.bool true) rfl (by kernel_rfl) (by kernel_rfl) (by kernel_rfl) (fun _ _ _ h => h) hHeld (Or.inl ⟨by rfl, fun w' hSw => by (try dsimp only at hSw); (try subst hSw); go_simp⟩) ?_
          simp only [Act.put, List.setIfInBounds_toArray, List.set_cons_zero, List.set_cons_succ]
          refine held_take 24 undef rfl (by kernel_rfl) (by kernel_rfl) (by kernel_rfl) (fun _ _ _ h => h) hHeld (Or.inr ⟨by rfl, rfl⟩) ?_
          simp only [Act.put, List.setIfInBounds_toArray, List.set_cons_zero, List.set_cons_succ]
          refine held_take 25 undef rfl (by kernel_rfl) (by kernel_rfl) (by kernel_rfl) (fun _ _ _ h => h) hHeld (Or.inr ⟨by rfl, rfl⟩) ?_
          simp only [Act.put, List.setIfInBounds_toArray, List.set_cons_zero, List.set_cons_succ]
          refine held_take 26 undef rfl (by kernel_rfl) (by kernel_rfl) (by kernel_rfl) (fun _ _ _ h => h) hHeld (Or.inr ⟨by rfl, rfl⟩) ?_
          simp only [Act.put, List.setIfInBounds_toArray, List.set_cons_zero, List.set_cons_succ]
          refine held_take 27 undef rfl (by kernel_rfl) (by kernel_rfl) (by kernel_rfl) (fun _ _ _ h => h) hHeld (Or.inr ⟨by rfl, rfl⟩) ?_
          simp only [Act.put, List.setIfInBounds_toArray, List.set_cons_zero, List.set_cons_succ]
          refine held_take 28 undef rfl (by kernel_rfl) (by kernel_rfl) (by kernel_rfl) (fun _ _ _ h => h) hHeld (Or.inr ⟨by rfl, rfl⟩) ?_
          simp only [Act.put, List.setIfInBounds_toArray, List.set_cons_zero, List.set_cons_succ]
          refine held_take 29 undef rfl (by kernel_rfl) (by kernel_rfl) (by kernel_rfl) (fun _ _ _ h => h) hHeld (Or.inr ⟨by rfl, rfl⟩) ?_
          simp only [Act.put, List.setIfInBounds_toArray, List.set_cons_zero, List.set_cons_succ]
          refine held_take 30 (.bool true) rfl (by kernel_rfl) (by kernel_rfl) (by kernel_rfl) (fun _ _ _ h => h) hHeld (Or.inl ⟨by rfl, fun w' hSw => by (try dsimp only at hSw); (try subst hSw); go_simp⟩) ?_
          simp only [Act.put, List.setIfInBounds_toArray, List.set_cons_zero, List.set_cons_succ]
          refine wpAnyH_done (by kernel_rfl) ?_ _
          clear hHeld
          clear hs3 hdj honly hGj hown hd7 hon7 hon3 k7 k35 k4 k5
          go_wp2
          go_ret
          exact ⟨by rw [hbo.out]; rfl, hfin.out⟩
      · have hb5 : barErr sj = 5 := by
          unfold barErr at hb1 ⊢
          split at hb1
          · rename_i h'; rw [if_pos h']
          · exact absurd rfl hb1
        have hcw : commitW s n l = (5, barred sj) := commitW_1 (by rw [hset3.out, hb5]) (by decide)
        have hbo : decide ((commitW s n l).1 = 0) = false := by rw [hcw]; rfl
        rw [hb5] at hbar
        replace hb1 := Lib.hid hb1
        replace hb5 := Lib.hid hb5
        go_wp2_with fail
        refine wp_region_held_drew (S := fun w' => w'.cell? ⟨lp, 0, none⟩ = some (.pointer (some ⟨p, 0, none⟩))) (by kernel_rfl) l0d (fun hHeld => ?_)
        refine held_take 0 (.pointer (some ⟨lp, 0, none⟩)) rfl (by kernel_rfl) (by kernel_rfl) (by kernel_rfl) (fun _ _ _ h => h) hHeld (Or.inl ⟨by rfl, fun w' hSw => by (try dsimp only at hSw); (try subst hSw); go_simp⟩) ?_
        simp only [Act.put, List.setIfInBounds_toArray, List.set_cons_zero, List.set_cons_succ]
        refine held_take 1 (.pointer (some ⟨lp, 0, none⟩)) rfl (by kernel_rfl) (by kernel_rfl) (by kernel_rfl) (fun _ _ _ h => h) hHeld (Or.inl ⟨by rfl, fun w' hSw => by (try dsimp only at hSw); (try subst hSw); go_simp⟩) ?_
        simp only [Act.put, List.setIfInBounds_toArray, List.set_cons_zero, List.set_cons_succ]
        refine held_take 2 (.pointer (some ⟨lp, 0, none⟩)) rfl (by kernel_rfl) (by kernel_rfl) (by kernel_rfl) (fun _ _ _ h => h) hHeld (Or.inl ⟨by rfl, fun w' hSw => by (try dsimp only at hSw); (try subst hSw); go_simp⟩) ?_
        simp only [Act.put, List.setIfInBounds_toArray, List.set_cons_zero, List.set_cons_succ]
        refine held_take 3 (.pointer (some ⟨p, 0, none⟩)) rfl (by kernel_rfl) (by kernel_rfl) (by kernel_rfl) (fun _ _ _ h => h) hHeld (Or.inl ⟨by rfl, fun w' hSw => by (try dsimp only at hSw); (try subst hSw); go_simp⟩) ?_
        simp only [Act.put, List.setIfInBounds_toArray, List.set_cons_zero, List.set_cons_succ]
        refine held_step 4 rfl (by kernel_rfl) (fun K hK => ?_)
        go_simp
        go_at_call 57
        refine hbar.out.mono ?_
        rintro e w3 ⟨rfl, hs3⟩
        go_wp2_with fail
        refine hK.out _ _ (hs3.2.cell l0d hlpj) (fun hHeld => ?_)
        clear hK K
        refine held_take 5 (.bool true) rfl (by kernel_rfl) (by kernel_rfl) (by kernel_rfl) (fun _ _ _ h => h) hHeld (Or.inl ⟨by rfl, fun w' hSw => by (try dsimp only at hSw); (try subst hSw); go_simp⟩) ?_
        simp only [Act.put, List.setIfInBounds_toArray, List.set_cons_zero, List.set_cons_succ]
        refine held_take 6 (.bool true) rfl (by kernel_rfl) (by kernel_rfl) (by kernel_rfl) (fun _ _ _ h => h) hHeld (Or.inl ⟨by rfl, fun w' hSw => by (try dsimp only at hSw); (try subst hSw); go_simp⟩) ?_
        simp only [Act.put, List.setIfInBounds_toArray, List.set_cons_zero, List.set_cons_succ]
        refine held_take 7 undef rfl (by kernel_rfl) (by kernel_rfl) (by kernel_rfl) (fun _ _ _ h => h) hHeld (Or.inr ⟨by rfl, rfl⟩) ?_
        simp only [Act.put, List.setIfInBounds_toArray, List.set_cons_zero, List.set_cons_succ]
        refine held_take 8 undef rfl (by kernel_rfl) (by kernel_rfl) (by kernel_rfl) (fun _ _ _ h => h) hHeld (Or.inr ⟨by rfl, rfl⟩) ?_
        simp only [Act.put, List.setIfInBounds_toArray, List.set_cons_zero, List.set_cons_succ]
        refine held_take 9 undef rfl (by kernel_rfl) (by kernel_rfl) (by kernel_rfl) (fun _ _ _ h => h) hHeld (Or.inr ⟨by rfl, rfl⟩) ?_
        simp only [Act.put, List.setIfInBounds_toArray, List.set_cons_zero, List.set_cons_succ]
        refine held_take 10 undef rfl (by kernel_rfl) (by kernel_rfl) (by kernel_rfl) (fun _ _ _ h => h) hHeld (Or.inr ⟨by rfl, rfl⟩) ?_
        simp only [Act.put, List.setIfInBounds_toArray, List.set_cons_zero, List.set_cons_succ]
        refine held_take 11 undef rfl (by kernel_rfl) (by kernel_rfl) (by kernel_rfl) (fun _ _ _ h => h) hHeld (Or.inr ⟨by rfl, rfl⟩) ?_
        simp only [Act.put, List.setIfInBounds_toArray, List.set_cons_zero, List.set_cons_succ]
        refine held_take 12 undef rfl (by kernel_rfl) (by kernel_rfl) (by kernel_rfl) (fun _ _ _ h => h) hHeld (Or.inr ⟨by rfl, rfl⟩) ?_
        simp only [Act.put, List.setIfInBounds_toArray, List.set_cons_zero, List.set_cons_succ]
        refine held_take 13 undef rfl (by kernel_rfl) (by kernel_rfl) (by kernel_rfl) (fun _ _ _ h => h) hHeld (Or.inr ⟨by rfl, rfl⟩) ?_
        simp only [Act.put, List.setIfInBounds_toArray, List.set_cons_zero, List.set_cons_succ]
        refine held_take 14 undef rfl (by kernel_rfl) (by kernel_rfl) (by kernel_rfl) (fun _ _ _ h => h) hHeld (Or.inr ⟨by rfl, rfl⟩) ?_
        simp only [Act.put, List.setIfInBounds_toArray, List.set_cons_zero, List.set_cons_succ]
        refine held_take 15 undef rfl (by kernel_rfl) (by kernel_rfl) (by kernel_rfl) (fun _ _ _ h => h) hHeld (Or.inr ⟨by rfl, rfl⟩) ?_
        simp only [Act.put, List.setIfInBounds_toArray, List.set_cons_zero, List.set_cons_succ]
        refine held_take 16 undef rfl (by kernel_rfl) (by kernel_rfl) (by kernel_rfl) (fun _ _ _ h => h) hHeld (Or.inr ⟨by rfl, rfl⟩) ?_
        simp only [Act.put, List.setIfInBounds_toArray, List.set_cons_zero, List.set_cons_succ]
        refine held_take 17 undef rfl (by kernel_rfl) (by kernel_rfl) (by kernel_rfl) (fun _ _ _ h => h) hHeld (Or.inr ⟨by rfl, rfl⟩) ?_
        simp only [Act.put, List.setIfInBounds_toArray, List.set_cons_zero, List.set_cons_succ]
        refine held_take 18 undef rfl (by kernel_rfl) (by kernel_rfl) (by kernel_rfl) (fun _ _ _ h => h) hHeld (Or.inr ⟨by rfl, rfl⟩) ?_
        simp only [Act.put, List.setIfInBounds_toArray, List.set_cons_zero, List.set_cons_succ]
        refine held_take 19 undef rfl (by kernel_rfl) (by kernel_rfl) (by kernel_rfl) (fun _ _ _ h => h) hHeld (Or.inr ⟨by rfl, rfl⟩) ?_
        simp only [Act.put, List.setIfInBounds_toArray, List.set_cons_zero, List.set_cons_succ]
        refine held_take 20 undef rfl (by kernel_rfl) (by kernel_rfl) (by kernel_rfl) (fun _ _ _ h => h) hHeld (Or.inr ⟨by rfl, rfl⟩) ?_
        simp only [Act.put, List.setIfInBounds_toArray, List.set_cons_zero, List.set_cons_succ]
        refine held_take 21 undef rfl (by kernel_rfl) (by kernel_rfl) (by kernel_rfl) (fun _ _ _ h => h) hHeld (Or.inr ⟨by rfl, rfl⟩) ?_
        simp only [Act.put, List.setIfInBounds_toArray, List.set_cons_zero, List.set_cons_succ]
        refine held_take 22 (.bool true) rfl (by kernel_rfl) (by kernel_rfl) (by kernel_rfl) (fun _ _ _ h => h) hHeld (Or.inl ⟨by rfl, fun w' hSw => by (try dsimp only at hSw); (try subst hSw); go_simp⟩) ?_
        simp only [Act.put, List.setIfInBounds_toArray, List.set_cons_zero, List.set_cons_succ]
        refine held_take 23 (.bool true) rfl (by kernel_rfl) (by kernel_rfl) (by kernel_rfl) (fun _ _ _ h => h) hHeld (Or.inl ⟨by rfl, fun w' hSw => by (try dsimp only at hSw); (try subst hSw); go_simp⟩) ?_
        simp only [Act.put, List.setIfInBounds_toArray, List.set_cons_zero, List.set_cons_succ]
        refine held_take 24 undef rfl (by kernel_rfl) (by kernel_rfl) (by kernel_rfl) (fun _ _ _ h => h) hHeld (Or.inr ⟨by rfl, rfl⟩) ?_
        simp only [Act.put, List.setIfInBounds_toArray, List.set_cons_zero, List.set_cons_succ]
        refine held_take 25 undef rfl (by kernel_rfl) (by kernel_rfl) (by kernel_rfl) (fun _ _ _ h => h) hHeld (Or.inr ⟨by rfl, rfl⟩) ?_
        simp only [Act.put, List.setIfInBounds_toArray, List.set_cons_zero, List.set_cons_succ]
        refine held_take 26 undef rfl (by kernel_rfl) (by kernel_rfl) (by kernel_rfl) (fun _ _ _ h => h) hHeld (Or.inr ⟨by rfl, rfl⟩) ?_
        simp only [Act.put, List.setIfInBounds_toArray, List.set_cons_zero, List.set_cons_succ]
        refine held_take 27 undef rfl (by kernel_rfl) (by kernel_rfl) (by kernel_rfl) (fun _ _ _ h => h) hHeld (Or.inr ⟨by rfl, rfl⟩) ?_
        simp only [Act.put, List.setIfInBounds_toArray, List.set_cons_zero, List.set_cons_succ]
        refine held_take 28 undef rfl (by kernel_rfl) (by kernel_rfl) (by kernel_rfl) (fun _ _ _ h => h) hHeld (Or.inr ⟨by rfl, rfl⟩) ?_
        simp only [Act.put, List.setIfInBounds_toArray, List.set_cons_zero, List.set_cons_succ]
        refine held_take 29 undef rfl (by kernel_rfl) (by kernel_rfl) (by kernel_rfl) (fun _ _ _ h => h) hHeld (Or.inr ⟨by rfl, rfl⟩) ?_
        simp only [Act.put, List.setIfInBounds_toArray, List.set_cons_zero, List.set_cons_succ]
        refine held_take 30 (.bool true) rfl (by kernel_rfl) (by kernel_rfl) (by kernel_rfl) (fun _ _ _ h => h) hHeld (Or.inl ⟨by rfl, fun w' hSw => by (try dsimp only at hSw); (try subst hSw); go_simp⟩) ?_
        simp only [Act.put, List.setIfInBounds_toArray, List.set_cons_zero, List.set_cons_succ]
        refine wpAnyH_done (by kernel_rfl) ?_ _
        clear hHeld
        have hfin : RefDid w w3 p G (commitW s n l).2 := by
          rw [hcw]
          exact ⟨Gj, hs3.1, (honly.trans (kd.more (by simp))).then hs3.2 (fun i hi => (hGj.out i hi).1), fun i hi => ⟨(hGj.out i hi).1, Nat.lt_of_lt_of_le (hGj.out i hi).2 (Nat.le_trans kd.size hs3.2.size)⟩⟩
        replace hfin := Lib.hid hfin
        replace hcw := Lib.hid hcw
        replace hbo := Lib.hid hbo
        clear hs3 hdj honly hGj hown
        go_wp2
        go_ret
        exact ⟨by rw [hbo.out]; rfl, hfin.out⟩

end Go.Proofs.YthpjkhmkjhgbkaaGreatDoor
